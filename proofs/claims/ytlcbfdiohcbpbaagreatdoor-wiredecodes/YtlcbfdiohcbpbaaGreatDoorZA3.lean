import Derived.Test.YtlcbfdiohcbpbaaGreatDoorZA1
import Derived.Laws.DeepStrings4
import Derived.Laws.AppendOwn
import Derived.Laws.OwnMore
import Derived.Lib.AppendZeros
import Derived.Deep.Upon
namespace Go.Proofs.YtlcbfdiohcbpbaaGreatDoor
set_option maxHeartbeats 16000000
set_option maxRecDepth 20000
open Go.ChangeShapes Go.WideShapes Go.ChangeAt Go.RowKit
structure Rd (w:World) (b:Nat) (s:ByteArray) (e:Int):Prop where
 c0:w.cell? ⟨b,0,none⟩=some (.string s)
 c1:w.cell? ⟨b,1,none⟩=some (.int .i64 e)
 f0:w.frozen? ⟨b,0,none⟩=false
 f1:w.frozen? ⟨b,1,none⟩=false
structure Only (b:Nat) (w w':World):Prop where
 os:w'.os=w.os
 tape:w'.tape=w.tape
 output:w'.output=w.output
 size:w'.heap.size=w.heap.size
 block:∀ k,k≠b→w'.heap[k]? = w.heap[k]?
theorem Only.refl (b:Nat) (w:World):Only b w w:=⟨rfl,rfl,rfl,rfl,fun _ _=>rfl⟩
theorem Only.setCell {b:Nat} {w w':World} (h:Only b w w') (o:Nat) (v:Value):Only b w (w'.setCell ⟨b,o,none⟩ v) :=
 ⟨h.os,h.tape,h.output,by simp [World.setCell,h.size],fun k hk=>(Below.heap_setCell _ _ _ _ hk).trans (h.block k hk)⟩
theorem Only.below {b:Nat} {w w' a:World} (h:Only b w w') (hb:a.heap.size≤b) (g:Below a.heap.size a w):Below a.heap.size a w' :=
 g.trans ⟨h.os,h.tape,h.output,by rw [h.size];exact Nat.le_refl _,fun k hk=>h.block k (by omega)⟩
theorem Rd.only {b c:Nat} {w w':World} {s:ByteArray} {e:Int} (r:Rd w c s e) (h:Only b w w') (hne:c≠b):Rd w' c s e :=
  ⟨(World.cell?_of_block (w:=w) (h.block c hne)).trans r.c0,(World.cell?_of_block (w:=w) (h.block c hne)).trans r.c1,
   (World.frozen?_of_block (w:=w) (h.block c hne)).trans r.f0,(World.frozen?_of_block (w:=w) (h.block c hne)).trans r.f1⟩
theorem Rd.new (w:World) (s:ByteArray) (e:Int) (T:TypeId):Rd (w.alloc (.cells #[.string s,.int .i64 e] T)) w.heap.size s e :=
 ⟨by simp,by simp,by simp,by simp⟩
theorem Rd.set0 {w:World} {b:Nat} {s:ByteArray} {e:Int} (r:Rd w b s e) (s':ByteArray):Rd (w.setCell ⟨b,0,none⟩ (.string s')) b s' e:=by
 obtain ⟨c0,c1,f0,f1⟩:=r
 exact ⟨World.cell?_setCell_same _ _ _ c0,(World.cell?_setCell_other _ _ _ _ (by simp)).trans c1,by simp [f0],by simp [f1]⟩
theorem Rd.set1 {w:World} {b:Nat} {s:ByteArray} {e:Int} (r:Rd w b s e) (e':Int):Rd (w.setCell ⟨b,1,none⟩ (.int .i64 e')) b s e':=by
 obtain ⟨c0,c1,f0,f1⟩:=r
 exact ⟨(World.cell?_setCell_other _ _ _ _ (by simp)).trans c0,World.cell?_setCell_same _ _ _ c1,by simp [f0],by simp [f1]⟩
theorem take_any (b:Nat) (s:ByteArray) (e n:Int) (may:Bool) (w:World) (hm:may=true→0≤n) (r:Rd w b s e) :
    Calls Tryz.prog 82 #[.pointer (some ⟨b,0,none⟩),.int .i64 n,.bool may] w fun x w' =>
      x=.returned (.string (takeV s e n may))∧Rd w' b (takeS s e n may) (takeE s e n may)∧Only b w w':=by
  have r0:=r
  obtain ⟨c0,c1,f0,f1⟩:=r
  by_cases he:e=0
  · subst he
    cases may
    · have v1:takeV s 0 n false=noB:=by simp [takeV]
      have v2:takeS s 0 n false=noB:=by simp [takeS]
      have v3:takeE s 0 n false=1:=by simp [takeE]
      rw [v1,v2,v3]
      clear v1 v2 v3 hm
      go_enter Tryz.func82,Tryz.ntmps82
      go_wp2
      go_ret
      exact ⟨rfl,(r0.set0 noB).set1 1,((Only.refl _ _).setCell 0 _).setCell 1 _⟩
    · have hn:=hm rfl
      by_cases hl:n≤s.size
      · have v1:takeV s 0 n true=s.extract 0 n.toNat:=by simp [takeV,hl]
        have v2:takeS s 0 n true=s.extract n.toNat s.size:=by simp [takeS,hl]
        have v3:takeE s 0 n true=0:=by simp [takeE,hl]
        rw [v1,v2,v3]
        obtain ⟨k,rfl⟩:=Int.eq_ofNat_of_zero_le hn
        clear v1 v2 v3 hm hn
        go_enter Tryz.func82,Tryz.ntmps82
        go_wp2
        go_ret
        exact ⟨rfl,r0.set0 _,(Only.refl _ _).setCell 0 _⟩
      · have v1:takeV s 0 n true=noB:=by simp [takeV,hl]
        have v2:takeS s 0 n true=noB:=by simp [takeS,hl]
        have v3:takeE s 0 n true=10:=by simp [takeE,hl]
        rw [v1,v2,v3]
        clear v1 v2 v3 hm
        go_enter Tryz.func82,Tryz.ntmps82
        go_wp2
        go_ret
        exact ⟨rfl,(r0.set0 noB).set1 10,((Only.refl _ _).setCell 0 _).setCell 1 _⟩
  · have v1:takeV s e n may=noB:=by simp [takeV,he]
    have v2:takeS s e n may=s:=by simp [takeS,he]
    have v3:takeE s e n may=e:=by simp [takeE,he]
    rw [v1,v2,v3]
    have hb:(e != 0)=true:=by simp [he]
    clear v1 v2 v3 hm he
    go_enter Tryz.func82,Tryz.ntmps82
    go_wp2
    go_ret
    exact ⟨rfl,r0,Only.refl _ _⟩
theorem number_any (s:ByteArray) (w:World) (hs:s.size≤maxLen) :
    Calls Tryz.prog 81 #[.string s] w fun x w'=>x=.returned (.int .u64 (numOf s.data.toList))∧w'=w:=by
  unfold maxLen at hs
  go_enter Tryz.func81,Tryz.ntmps81
  go_wp2
  go_loop [3,7] (fun n i=>∃ k:Nat,k≤s.size∧i=.int .i64 k∧n=.int .u64 (numOf (s.data.toList.take k))) (fun _ i=>s.size - (intOf i).toNat)
  case atStart=>exact ⟨0,Nat.zero_le _,rfl,rfl⟩
  case round =>
    obtain ⟨k,hk,rfl,rfl⟩:=hrel
    by_cases hlt:k < s.size
    · have HS:Hid (numOf (s.data.toList.take (k + 1))=stepN (numOf (s.data.toList.take k)) s[k]):=numOf_take s k hlt
      go_wp2
      go_round
      case rel=>exact ⟨k + 1,by omega,by go_num,by rw [HS.out];rfl⟩
      case measure=>simp [intOf];omega
    · go_wp2
      go_ret
      exact ⟨ret_int (by rw [List.take_of_length_le (by simp;omega)]),rfl⟩
theorem num_any (b:Nat) (s:ByteArray) (e n:Int) (w:World) (hs:s.size≤maxLen) (r:Rd w b s e) :
    Calls Tryz.prog 46 #[.pointer (some ⟨b,0,none⟩),.int .i64 n] w fun x w' =>
      x=.returned (.int .u64 (numV s e n))∧Rd w' b (takeS s e n (szB n)) (takeE s e n (szB n))∧Only b w w':=by
  have hp:szB n=true→0≤n:=by unfold szB;simp;omega
  have HP:Hid (szB n=true→0≤n):=hp
  clear hp
  go_enter Tryz.func46,Tryz.ntmps46
  go_wp2_with fail
  refine (isSize_any _ _).mono ?_
  rintro x w' ⟨rfl,rfl⟩
  go_wp2_with fail
  refine (take_any b s e n (szB n) _ HP.out r).mono ?_
  rintro x w1 ⟨rfl,r1,o1⟩
  go_wp2_with fail
  refine (number_any _ _ (Nat.le_trans (takeV_size _ _ _ _) hs)).mono ?_
  rintro x w2 ⟨rfl,rfl⟩
  go_wp2_with fail
  go_ret
  exact ⟨rfl,r1,o1⟩
theorem read_any (s:ByteArray) (w:World) :
    Calls Tryz.prog 45 #[.string s] w fun x w'=>x=.returned (.pointer (some ⟨w.heap.size,0,none⟩))∧w'=w.alloc (.cells #[.string s,.int .i64 0] 121):=by
  go_enter Tryz.func45,Tryz.ntmps45
  go_wp2
  go_ret
  exact ⟨rfl,rfl⟩
theorem numR (b:Nat) (r:RS) (n:Int) (w:World) (hs:r.s.size≤maxLen) (h:Rd w b r.s r.e) :
  Calls Tryz.prog 46 #[.pointer (some ⟨b,0,none⟩),.int .i64 n] w fun x w'=>x=.returned (.int .u64 (r.num n))∧Rd w' b (r.skip n).s (r.skip n).e∧Only b w w':=num_any b r.s r.e n w hs h
theorem Rd.below {w w':World} {b:Nat} {s:ByteArray} {e:Int} (r:Rd w b s e) (hb:b < w.heap.size) (g:Below w.heap.size w w'):Rd w' b s e :=
 ⟨(g.cell (p:=⟨b,0,none⟩) hb).trans r.c0,(g.cell (p:=⟨b,1,none⟩) hb).trans r.c1,(g.frozen (p:=⟨b,0,none⟩) hb).trans r.f0,(g.frozen (p:=⟨b,1,none⟩) hb).trans r.f1⟩
def kindV (n:Int):Int:=if n=0 then 1 else if n=22 then 2 else if n=17 then 3 else if n=18 then 4 else if n=25 then 5 else 0
def fldV (n:Int):Int:=if n=6 then 3 else if n=11 then 5 else if n=12 then 6 else if n=13 then 8 else if n=14 then 9 else 0
theorem kn_cases (n:Int):n=0∨n=22∨n=17∨n=18∨n=25∨(((0:Int) == n)=false∧((22:Int) == n)=false∧((17:Int) == n)=false∧((18:Int) == n)=false∧((25:Int) == n)=false∧kindV n=0):=by
 by_cases h1:n=0
 ·exact .inl h1
 by_cases h2:n=22
 ·exact .inr (.inl h2)
 by_cases h3:n=17
 ·exact .inr (.inr (.inl h3))
 by_cases h4:n=18
 ·exact .inr (.inr (.inr (.inl h4)))
 by_cases h5:n=25
 ·exact .inr (.inr (.inr (.inr (.inl h5))))
 refine .inr (.inr (.inr (.inr (.inr ⟨?_,?_,?_,?_,?_,?_⟩))))
 ·simp;omega
 ·simp;omega
 ·simp;omega
 ·simp;omega
 ·simp;omega
 ·unfold kindV;simp [h1,h2,h3,h4,h5]
theorem fl_cases (n:Int):n=6∨n=11∨n=12∨n=13∨n=14∨(((6:Int) == n)=false∧((11:Int) == n)=false∧((12:Int) == n)=false∧((13:Int) == n)=false∧((14:Int) == n)=false∧fldV n=0):=by
 by_cases h1:n=6
 ·exact .inl h1
 by_cases h2:n=11
 ·exact .inr (.inl h2)
 by_cases h3:n=12
 ·exact .inr (.inr (.inl h3))
 by_cases h4:n=13
 ·exact .inr (.inr (.inr (.inl h4)))
 by_cases h5:n=14
 ·exact .inr (.inr (.inr (.inr (.inl h5))))
 refine .inr (.inr (.inr (.inr (.inr ⟨?_,?_,?_,?_,?_,?_⟩))))
 ·simp;omega
 ·simp;omega
 ·simp;omega
 ·simp;omega
 ·simp;omega
 ·unfold fldV;simp [h1,h2,h3,h4,h5]
theorem kindOf_any (n:Int) (w:World) (hd:Cd w) :
    Calls Tryz.prog 160 #[.int .i64 n] w fun e w'=>e=.returned (.int .i64 (kindV n))∧Below w.heap.size w w':=by
  obtain ⟨ct,cfr,hd⟩:=hd.kinds
  have x0:=idk0
  have x1:=idk1
  have x2:=idk2
  have x3:=idk3
  have x4:=idk4
  rcases kn_cases n with rfl | rfl | rfl | rfl | rfl | ⟨b1,b2,b3,b4,b5,hc⟩
  case inr.inr.inr.inr.inr =>
    rw [hc]
    go_enter Tryz.func160,Tryz.ntmps160
    go_wp2_with (refine wpList_load_row rfl 175 (.global 1) rfl 1 rfl ct kindsA cfr _ hd Tryz.underlying175 rfl (by kernel_rfl) ?_)
    clear hd
    go_rounds 6
    go_ret
    exact ⟨rfl,by go_grown⟩
  all_goals
    go_enter Tryz.func160,Tryz.ntmps160
    go_wp2_with (refine wpList_load_row rfl 175 (.global 1) rfl 1 rfl ct kindsA cfr _ hd Tryz.underlying175 rfl (by kernel_rfl) ?_)
    clear hd
    go_rounds 6
    go_ret
    exact ⟨rfl,by go_grown⟩
theorem fieldOf_any (n:Int) (w:World) (hd:Cd w) :
    Calls Tryz.prog 161 #[.int .i64 n] w fun e w'=>e=.returned (.int .i64 (fldV n))∧Below w.heap.size w w':=by
  obtain ⟨ct,cfr,hd⟩:=hd.codes
  have x0:=idc0
  have x1:=idc1
  have x2:=idc2
  have x3:=idc3
  have x4:=idc4
  rcases fl_cases n with rfl | rfl | rfl | rfl | rfl | ⟨b1,b2,b3,b4,b5,hc⟩
  case inr.inr.inr.inr.inr =>
    rw [hc]
    go_enter Tryz.func161,Tryz.ntmps161
    go_wp2_with (refine wpList_load_row rfl 186 (.global 4) rfl 4 rfl ct codesA cfr _ hd Tryz.underlying186 rfl (by kernel_rfl) ?_)
    clear hd
    go_rounds 6
    go_ret
    exact ⟨rfl,by go_grown⟩
  all_goals
    go_enter Tryz.func161,Tryz.ntmps161
    go_wp2_with (refine wpList_load_row rfl 186 (.global 4) rfl 4 rfl ct codesA cfr _ hd Tryz.underlying186 rfl (by kernel_rfl) ?_)
    clear hd
    go_rounds 6
    go_ret
    exact ⟨rfl,by go_grown⟩
def readV (d:ByteArray):A :=
 if kindV ((⟨d,0⟩:RS).num 2)=1∨kindV ((⟨d,0⟩:RS).num 2)=2 then (kindV ((⟨d,0⟩:RS).num 2),0,(((⟨d,0⟩:RS).skip 2).skip 2).num 4)
 else if kindV ((⟨d,0⟩:RS).num 2)=5 then (5,fldV (((((⟨d,0⟩:RS).skip 2).skip 2).skip 2).num 1 / 2),((((((⟨d,0⟩:RS).skip 2).skip 2).skip 2).skip 1).skip 1).num (szV (fldV (((((⟨d,0⟩:RS).skip 2).skip 2).skip 2).num 1 / 2))))
 else (kindV ((⟨d,0⟩:RS).num 2),0,0)
theorem fld_code {f:Int} (h:f=3∨f=5∨f=6∨f=8∨f=9):fldV (codeV f)=f∧0≤codeV f∧codeV f≤14:=by
 rcases h with rfl | rfl | rfl | rfl | rfl <;> decide
theorem sz_set {f:Int} (h:f=3∨f=5∨f=6∨f=8∨f=9) : ¬ (f < 1∨9 < f)∧2≤szV f∧szV f≤4:=by
 rcases h with rfl | rfl | rfl | rfl | rfl <;> decide
theorem wr1 (f v:Int):writeV (1,f,v)=pb 0 2 ++ (pb 16 2 ++ (pb v 4 ++ (pb 65535 2 ++ zeros 6))):=by
 simp [writeV,bodyV,knV,ksV,ByteArray.size_append,pb_size,ap_assoc]
theorem wr2 (f v:Int):writeV (2,f,v)=pb 22 2 ++ (pb 8 2 ++ (pb v 4 ++ zeros 0)):=by
 simp [writeV,bodyV,knV,ksV,pb_size,ap_assoc]
theorem wr3 (f v:Int):writeV (3,f,v)=pb 17 2 ++ (pb 8 2 ++ (pb 33024 2 ++ zeros 2)):=by
 simp [writeV,bodyV,knV,ksV,pb_size,ap_assoc]
theorem wr4 (f v:Int):writeV (4,f,v)=pb 18 2 ++ (pb 8 2 ++ zeros 4):=by
 have e0:(⟨#[]⟩:ByteArray).size=0:=rfl
 have e:writeV (4,f,v)=pb 18 2 ++ pb 8 2 ++ ⟨#[]⟩ ++ zeros 4:=by simp [writeV,bodyV,knV,ksV,e0]
 rw [e]
 apply ba_ext;simp
theorem wr5 (f v:Int):writeV (5,f,v)=pb 25 2 ++ (pb 16 2 ++ (pb 32768 2 ++ (pb (2 * codeV f) 1 ++ (pb (szV f:Int) 1 ++ (pb v (szV f) ++ zeros (16 - 4 - (4 + szV f))))))):=by
 simp [writeV,bodyV,knV,ksV,ByteArray.size_append,pb_size,ap_assoc]
 congr 1
 omega
theorem read_write {a:A} (h:rightB a=true) (hw:0≤a.2.2):readV (writeV a)=a:=by
 rcases right_cases h with ⟨h1,h2,h3,h4⟩ | ⟨h1,h2,h3,h4⟩ | ⟨h1,h2,h3⟩ | ⟨h1,h2,h3⟩ | ⟨h1,h2,h3,h4⟩
 ·obtain ⟨k,f,v⟩:=a
  simp only at h1 h2 h3 h4 hw
  subst h1 h2
  unfold readV
  rw [wr1,num2_ap _ _ (by omega) (by omega),skip2_ap,skip2_ap,num4_ap _ _ (by omega) (by omega)]
  rfl
 ·obtain ⟨k,f,v⟩:=a
  simp only at h1 h2 h3 h4 hw
  subst h1 h2
  unfold readV
  rw [wr2,num2_ap _ _ (by omega) (by omega),skip2_ap,skip2_ap,num4_ap _ _ (by omega) (by omega)]
  rfl
 ·obtain ⟨k,f,v⟩:=a
  simp only at h1 h2 h3
  subst h1 h2 h3
  unfold readV
  rw [wr3,num2_ap _ _ (by omega) (by omega)]
  rfl
 ·obtain ⟨k,f,v⟩:=a
  simp only at h1 h2 h3
  subst h1 h2 h3
  unfold readV
  rw [wr4,num2_ap _ _ (by omega) (by omega)]
  rfl
 ·obtain ⟨k,f,v⟩:=a
  simp only at h1 h2 h3 h4 hw
  subst h1
  obtain ⟨e1,e2,e3⟩:=fld_code h2
  obtain ⟨s0,s1,s2⟩:=sz_set h2
  have hg:=Int.lt_of_le_of_lt h4 (gr_pow s0)
  unfold readV
  rw [wr5,num2_ap _ _ (by omega) (by omega),skip2_ap,skip2_ap,skip2_ap,num1_ap _ _ (by omega) (by omega),skip1_ap,skip1_ap]
  rw [show 2 * codeV f / 2=codeV f by omega,e1]
  rw [num_ap v _ (szV f) (by omega) (by unfold szB;simp;omega) hw hg]
  rfl
def sizeV (d:ByteArray):Int:=(⟨d.extract 2 4,0⟩:RS).num 2
def firstE (d:ByteArray):Int :=
 if d.size < 4 then 10 else if (d.size:Int) < sizeV d then 10 else if sizeV d < 8 then 11
 else if rightB (readV (d.extract 0 (sizeV d).toNat))=true∧writeV (readV (d.extract 0 (sizeV d).toNat))=d.extract 0 (sizeV d).toNat then 0 else 11
def firstA (d:ByteArray):A:=if firstE d=0 then readV (d.extract 0 (sizeV d).toNat) else (0,0,0)
def firstZ (d:ByteArray):Int:=if firstE d=0 then sizeV d else 0
theorem sizeV_range (d:ByteArray):0≤sizeV d∧sizeV d < 65536:=by
 have:=RS.num_lt (⟨d.extract 2 4,0⟩:RS) 2 (by omega)
 exact ⟨this.1,by have h:=this.2;unfold sizeV;simpa using h⟩
structure First (d:ByteArray):Prop where
 len:8≤sizeV d
 le:sizeV d≤d.size
 right:rightB (firstA d)=true
 wr:writeV (firstA d)=d.extract 0 (sizeV d).toNat
 z:firstZ d=sizeV d
theorem first_of {d:ByteArray} (h:firstE d=0):First d:=by
 have hA:firstA d=readV (d.extract 0 (sizeV d).toNat):=by unfold firstA;rw [if_pos h]
 have hZ:firstZ d=sizeV d:=by unfold firstZ;rw [if_pos h]
 have h':=h
 unfold firstE at h'
 split at h'
 ·cases h'
 ·split at h'
  ·cases h'
  ·split at h'
   ·cases h'
   ·split at h'
    ·next hh=>exact ⟨by omega,by omega,by rw [hA];exact hh.1,by rw [hA];exact hh.2,hZ⟩
    ·cases h'
theorem cut_append (d:ByteArray) (z:Nat) (h:z≤d.size):d=d.extract 0 z ++ d.extract z d.size:=by
 apply ba_ext
 have hs:d.size=d.data.toList.length:=by simp
 simp only [ba_append,ByteArray.data_extract,Array.toList_extract]
 rw [List.extract_eq_take_drop,List.extract_eq_take_drop]
 simp only [List.drop_zero,Nat.sub_zero]
 rw [List.take_of_length_le (l:=List.drop z d.data.toList) (by rw [List.length_drop];omega),List.take_append_drop]
theorem ext_left (x t:ByteArray) (n:Nat) (h:x.size=n):(x ++ t).extract 0 n=x:=by rw [← h];exact extract_left x t
theorem ext_right (x t:ByteArray) (n:Nat) (h:x.size=n):(x ++ t).extract n (x ++ t).size=t:=by rw [← h];exact extract_right x t
theorem ext_mid (x y t:ByteArray) (hx:x.size=2) (hy:y.size=2):(x ++ (y ++ t)).extract 2 4=y:=by
 apply ba_ext
 have lx:x.data.toList.length=2:=by simpa using hx
 have ly:y.data.toList.length=2:=by simpa using hy
 simp only [ByteArray.data_extract,Array.toList_extract]
 rw [List.extract_eq_take_drop,ba_append,ba_append,List.drop_append_of_le_length (by omega),List.drop_of_length_le (by omega),List.nil_append,List.take_append_of_le_length (by omega),List.take_of_length_le (by omega)]
theorem size_write {a:A} (h:rightB a=true) (t:ByteArray):sizeV (writeV a ++ t)=ksV a.1:=by
 have key:∀ (n:Int) (z:Nat) (r:ByteArray),0≤(z:Int)→(z:Int)≤65535→sizeV (pb n 2 ++ (pb (z:Int) 2 ++ r))=z:=fun n z r h0 h1=>by
  unfold sizeV
  rw [ext_mid _ _ _ (pb_size _ _) (pb_size _ _)]
  have:=num2_ap (z:Int) ⟨#[]⟩ h0 h1
  rwa [show pb (z:Int) 2 ++ (⟨#[]⟩:ByteArray)=pb (z:Int) 2 by apply ba_ext;simp] at this
 rcases right_cases h with ⟨h1,_⟩ | ⟨h1,_⟩ | ⟨h1,_⟩ | ⟨h1,_⟩ | ⟨h1,_⟩ <;>
 ·obtain ⟨k,f,v⟩:=a
  simp only at h1
  subst h1
  first
   | (rw [wr1,ap_assoc,ap_assoc];exact key 0 16 _ (by omega) (by omega))
   | (rw [wr2,ap_assoc,ap_assoc];exact key 22 8 _ (by omega) (by omega))
   | (rw [wr3,ap_assoc,ap_assoc];exact key 17 8 _ (by omega) (by omega))
   | (rw [wr4,ap_assoc,ap_assoc];exact key 18 8 _ (by omega) (by omega))
   | (rw [wr5,ap_assoc,ap_assoc];exact key 25 16 _ (by omega) (by omega))
theorem first_write {a:A} (h:rightB a=true) (hw:0≤a.2.2) (t:ByteArray):firstE (writeV a ++ t)=0∧firstA (writeV a ++ t)=a∧firstZ (writeV a ++ t)=(writeV a).size:=by
 have hs:=size_write h t
 have hl:=encS_len1 a h
 have hk:8≤ksV a.1:=by unfold ksV;split <;> omega
 have hsz:(writeV a ++ t).size=ksV a.1 + t.size:=by rw [ByteArray.size_append,hl]
 have hx:(writeV a ++ t).extract 0 (ksV a.1)=writeV a:=ext_left _ _ _ hl
 have hE:firstE (writeV a ++ t)=0:=by
  unfold firstE
  rw [hs,Int.toNat_natCast,hx,read_write h hw,hsz,if_neg (by omega),if_neg (by omega),if_neg (by omega),if_pos ⟨h,rfl⟩]
 refine ⟨hE,?_,?_⟩
 ·unfold firstA
  rw [if_pos hE,hs,Int.toNat_natCast,hx,read_write h hw]
 ·unfold firstZ
  rw [if_pos hE,hs,hl]
def decGo:Nat→ByteArray→List A→List A × Int
 | 0,_,acc=>(acc,0)
 | n + 1,d,acc=>if d.size=0 then (acc,0) else if firstE d=0 then decGo n (d.extract (firstZ d).toNat d.size) (if acc.length≤32 then acc ++ [firstA d] else acc) else ([],firstE d)
def decR (d:ByteArray):List A × Int:=if (decGo d.size d []).2=0∧32 < (decGo d.size d []).1.length then ([],44) else decGo d.size d []
theorem first_rest {d:ByteArray} (h:firstE d=0):(d.extract (firstZ d).toNat d.size).size < d.size:=by
 have f:=first_of h
 rw [f.z,ByteArray.size_extract]
 have:=f.len
 have:=f.le
 omega
theorem decGo_fuel:∀ (n:Nat) (d:ByteArray) (acc:List A),d.size≤n→decGo n d acc=decGo d.size d acc:=by
  intro n
  induction n using Nat.strongRecOn with
  | ind n ih =>
    intro d acc hd
    cases n with
    | zero=>rw [show d.size=0 by omega]
    | succ n =>
      cases hs:d.size with
      | zero=>simp [decGo,hs]
      | succ m =>
        rw [decGo,decGo,hs]
        have hne : ¬ (m + 1=0):=by omega
        rw [if_neg hne,if_neg hne]
        by_cases he:firstE d=0
        · have:=first_rest he
          rw [hs] at this
          rw [if_pos he,if_pos he,ih n (by omega) _ _ (by omega),ih m (by omega) _ _ (by omega)]
        · rw [if_neg he,if_neg he]
theorem decGo_step {d:ByteArray} (acc:List A) (hd:d.size≠0) (he:firstE d=0):decGo d.size d acc=decGo (d.extract (firstZ d).toNat d.size).size (d.extract (firstZ d).toNat d.size) (if acc.length≤32 then acc ++ [firstA d] else acc):=by
 obtain ⟨m,hm⟩:∃ m,d.size=m + 1:=⟨d.size - 1,by omega⟩
 have:=first_rest he
 have e:decGo d.size d acc=decGo (m + 1) d acc:=by rw [hm]
 rw [e,decGo,if_neg hd,if_pos he,decGo_fuel m _ _ (by omega)]
theorem decGo_stop {d:ByteArray} (acc:List A) (hd:d.size≠0) (he:firstE d≠0):decGo d.size d acc=([],firstE d):=by
 obtain ⟨m,hm⟩:∃ m,d.size=m + 1:=⟨d.size - 1,by omega⟩
 have e:decGo d.size d acc=decGo (m + 1) d acc:=by rw [hm]
 rw [e,decGo,if_neg hd,if_neg he]
theorem decGo_end {d:ByteArray} (acc:List A) (hd:d.size=0):decGo d.size d acc=(acc,0):=by rw [hd];rfl
theorem decGo_is:∀ (n:Nat) (d:ByteArray) (acc:List A),d.size≤n→(decGo n d acc).2=0→acc.length≤(decGo n d acc).1.length∧((decGo n d acc).1.length≤32→∃ t,allB t=true∧(decGo n d acc).1=acc ++ t∧d=encL t)
  | 0,d,acc,hd,_=>⟨Nat.le_refl _,fun _=>⟨[],rfl,by simp [decGo],by
      apply ba_ext
      have h1:d.size=0:=by omega
      have:d.data.toList.length=0:=by simpa using h1
      rw [List.length_eq_zero_iff.1 this]
      rfl⟩⟩
  | n + 1,d,acc,hd,h0=>by
    by_cases hs:d.size=0
    · rw [decGo,if_pos hs]
      exact ⟨Nat.le_refl _,fun _=>⟨[],rfl,by simp,by
        apply ba_ext
        have:d.data.toList.length=0:=by simpa using hs
        rw [List.length_eq_zero_iff.1 this]
        rfl⟩⟩
    · by_cases he:firstE d=0
      · have f:=first_of he
        have hr:=first_rest he
        rw [decGo,if_neg hs,if_pos he] at h0 ⊢
        obtain ⟨i1,i2⟩:=decGo_is n _ _ (by omega) h0
        by_cases ha:acc.length≤32
        · rw [if_pos ha] at i1 i2 ⊢
          rw [List.length_append] at i1
          refine ⟨by omega,fun h32 => ?_⟩
          obtain ⟨t,t1,t2,t3⟩:=i2 h32
          refine ⟨firstA d :: t,by unfold allB at t1 ⊢;rw [List.all_cons,t1,f.right];rfl,by rw [t2];simp,?_⟩
          show d=writeV (firstA d) ++ encL t
          rw [f.wr,← t3,f.z]
          exact cut_append d _ (by have:=f.le;have:=f.len;omega)
        · rw [if_neg ha] at i1 i2 ⊢
          exact ⟨i1,fun h32=>by omega⟩
      · rw [decGo,if_neg hs,if_neg he] at h0
        exact absurd h0 he
theorem decGo_of:∀ (t:List A) (acc:List A),allB t=true→(∀ a ∈ t,0≤a.2.2)→acc.length + t.length≤32→decGo (encL t).size (encL t) acc=(acc ++ t,0)
  | [],acc,_,_,_=>by
    rw [decGo_end acc (show (encL []).size=0 from rfl)];simp
  | a :: t,acc,h,hw,hl=>by
    unfold allB at h
    rw [List.all_cons,Bool.and_eq_true] at h
    have hwa:=hw a List.mem_cons_self
    obtain ⟨f1,f2,f3⟩:=first_write h.1 hwa (encL t)
    have hsz:=encS_len1 a h.1
    have hk:8≤ksV a.1:=by unfold ksV;split <;> omega
    have e:encL (a :: t)=writeV a ++ encL t:=rfl
    rw [e,decGo_step acc (by rw [ByteArray.size_append];omega) f1,f2,f3,Int.toNat_natCast,extract_right]
    rw [List.length_cons] at hl
    rw [if_pos (by omega),decGo_of t (acc ++ [a]) (by unfold allB;exact h.2) (fun x hx=>hw x (List.mem_cons_of_mem _ hx)) (by rw [List.length_append,List.length_cons,List.length_nil];omega)]
    simp
theorem dec_enc (l:List A) (h:encodeE l=0) (hw:∀ a ∈ l,0≤a.2.2):decR (encodeS l)=(l,0):=by
 have hall:allB l=true:=by
  unfold encodeE at h
  split at h
  ·assumption
  ·cases h
 have h32:l.length≤32:=by
  unfold encodeE at h
  rw [hall] at h
  simp at h
  omega
 have e:encodeS l=encL l:=by unfold encodeS;rw [if_pos h]
 rw [e]
 have g:=decGo_of l [] hall hw (by simpa using h32)
 rw [List.nil_append] at g
 unfold decR
 rw [g,if_neg (by simp;omega)]
theorem enc_dec (d:ByteArray) (h:(decR d).2=0):encodeE (decR d).1=0∧encodeS (decR d).1=d:=by
 unfold decR at h ⊢
 split at h
 ·cases h
 ·next hn =>
  rw [if_neg hn]
  obtain ⟨i1,i2⟩:=decGo_is d.size d [] (Nat.le_refl _) h
  have h32:(decGo d.size d []).1.length≤32:=by
   rcases Nat.lt_or_ge 32 (decGo d.size d []).1.length with x | x
   ·exact absurd ⟨h,x⟩ hn
   ·exact x
  obtain ⟨t,t1,t2,t3⟩:=i2 h32
  rw [List.nil_append] at t2
  rw [t2] at h32 ⊢
  have e:encodeE t=0:=by unfold encodeE;rw [t1];simp [h32]
  exact ⟨e,by unfold encodeS;rw [if_pos e,← t3]⟩
theorem dec_bad:∀ (n:Nat) (d:ByteArray) (acc:List A),(decGo n d acc).2≠0→(decGo n d acc).1=[]
  | 0,_,_,h=>by simp [decGo] at h
  | n + 1,d,acc,h=>by
    rw [decGo] at h ⊢
    split
    · next hs=>rw [if_pos hs] at h;simp at h
    · next hs =>
      rw [if_neg hs] at h
      split
      · next he=>rw [if_pos he] at h;exact dec_bad n _ _ h
      · rfl
theorem decR_bad (d:ByteArray) (h:(decR d).2≠0):(decR d).1=[]:=by
 unfold decR at h ⊢
 split
 ·rfl
 ·next hn=>rw [if_neg hn] at h;exact dec_bad _ _ _ h
structure W3 (w:World) (b:Nat) (t:A):Prop where
 c:C3 w b 0 t
 f:∀ o,w.frozen? ⟨b,o,none⟩=false
theorem W3.block {w w':World} {b:Nat} {t:A} (h:W3 w b t) (g:w'.heap[b]? = w.heap[b]?):W3 w' b t :=
 ⟨h.c.block g,fun o=>(World.frozen?_of_block (w:=w) g).trans (h.f o)⟩
theorem W3.new (w:World) (t:A):W3 (tx w t) w.heap.size t:=⟨C3.new w t,by simp [tx]⟩
theorem W3.set0 {w:World} {b:Nat} {t:A} (h:W3 w b t) (x:Int):W3 (w.setCell ⟨b,0,none⟩ (.int .i64 x)) b (x,t.2.1,t.2.2):=by
 obtain ⟨⟨c0,c1,c2⟩,f⟩:=h
 exact ⟨⟨World.cell?_setCell_same _ _ _ c0,(World.cell?_setCell_other _ _ _ _ (by simp)).trans c1,(World.cell?_setCell_other _ _ _ _ (by simp)).trans c2⟩,fun o=>by simp [f]⟩
theorem W3.set1 {w:World} {b:Nat} {t:A} (h:W3 w b t) (x:Int):W3 (w.setCell ⟨b,1,none⟩ (.int .i64 x)) b (t.1,x,t.2.2):=by
 obtain ⟨⟨c0,c1,c2⟩,f⟩:=h
 exact ⟨⟨(World.cell?_setCell_other _ _ _ _ (by simp)).trans c0,World.cell?_setCell_same _ _ _ c1,(World.cell?_setCell_other _ _ _ _ (by simp)).trans c2⟩,fun o=>by simp [f]⟩
theorem W3.set2 {w:World} {b:Nat} {t:A} (h:W3 w b t) (x:Int):W3 (w.setCell ⟨b,2,none⟩ (.int .u64 x)) b (t.1,t.2.1,x):=by
 obtain ⟨⟨c0,c1,c2⟩,f⟩:=h
 exact ⟨⟨(World.cell?_setCell_other _ _ _ _ (by simp)).trans c0,(World.cell?_setCell_other _ _ _ _ (by simp)).trans c1,World.cell?_setCell_same _ _ _ c2⟩,fun o=>by simp [f]⟩
theorem Rd.set {w:World} {b c:Nat} {s:ByteArray} {e:Int} (r:Rd w b s e) (hne:b≠c) (o:Nat) (v:Value):Rd (w.setCell ⟨c,o,none⟩ v) b s e:=by
 have g:(w.setCell ⟨c,o,none⟩ v).heap[b]? = w.heap[b]?:=Below.heap_setCell _ _ _ _ hne
 exact ⟨(World.cell?_of_block (w:=w) g).trans r.c0,(World.cell?_of_block (w:=w) g).trans r.c1,(World.frozen?_of_block (w:=w) g).trans r.f0,(World.frozen?_of_block (w:=w) g).trans r.f1⟩
theorem tx_below (w:World) (t:A):Below w.heap.size w (tx w t):=by go_grown
theorem rd_any (s:ByteArray) (w:World):Calls Tryz.prog 45 #[.string s] w fun x w'=>x=.returned (.pointer (some ⟨w.heap.size,0,none⟩))∧Rd w' w.heap.size s 0∧Below w.heap.size w w'∧w'.heap.size=w.heap.size + 1:=by
 refine (read_any s w).mono ?_
 rintro x w' ⟨rfl,rfl⟩
 exact ⟨rfl,Rd.new w s 0 _,by go_grown,by simp⟩
theorem read_n (R:RS) (K:Int) (w:World) (hs:R.s.size≤maxLen) (he:R.e=0) (hd:Cd w) (hK:Hid (kindV (R.num 2)=K)) (b1:(K == 1)=false) (b2:(K == 2)=false) (b5:(K == 5)=false) :
    Calls Tryz.prog 151 #[.string R.s] w fun e w'=>e=.returned (tV (K,0,0))∧Below w.heap.size w w':=by
  have z1:R.s.size≤maxLen:=hs
  have z2:=Nat.le_trans (RS.skip_size R 2) z1
  have z3:=Nat.le_trans (RS.skip_size (R.skip 2) 2) z2
  have z4:=Nat.le_trans (RS.skip_size ((R.skip 2).skip 2) 2) z3
  have z5:=Nat.le_trans (RS.skip_size (((R.skip 2).skip 2).skip 2) 1) z4
  have z6:=Nat.le_trans (RS.skip_size ((((R.skip 2).skip 2).skip 2).skip 1) 1) z5
  have hlt:=RS.num_lt R 2 (by omega)
  have h0:0≤R.num 2:=by simpa using hlt.1
  have h1:R.num 2 < 65536:=by simpa using hlt.2
  clear hlt
  have HK:Hid (∀ w,Cd w→Calls Tryz.prog 160 #[.int .i64 (R.num 2)] w fun e w'=>e=.returned (.int .i64 K)∧Below w.heap.size w w'):=(show ∀ w,_ from fun w hd=>by
    have:=kindOf_any (R.num 2) w hd
    rwa [hK.out] at this)
  have HR:Hid (Calls Tryz.prog 45 #[.string R.s] (tx w (0,0,0)) fun x w'=>x=.returned (.pointer (some ⟨w.heap.size + 1,0,none⟩))∧Rd w' (w.heap.size + 1) R.s R.e∧Below (w.heap.size + 1) (tx w (0,0,0)) w'∧w'.heap.size=w.heap.size + 2):=(show _ from by
    have:=rd_any R.s (tx w (0,0,0))
    rw [show (tx w (0,0,0)).heap.size=w.heap.size + 1 by simp] at this
    rw [he]
    exact this)
  have HD:Hid (Cd w):=hd
  clear hs he hK hd
  go_enter Tryz.func151,Tryz.ntmps151
  go_wp2_with fail
  refine HR.out.mono ?_
  rintro x w1 ⟨rfl,r1,g1,s1⟩
  have d1:W3 w1 w.heap.size (0,0,0):=(W3.new w (0,0,0)).block (g1.block _ (by omega))
  have G1:Below w.heap.size w w1:=(tx_below w (0,0,0)).trans (g1.mono (by omega))
  clear g1
  go_wp2_with fail
  refine (numR (w.heap.size + 1) R 2 _ z1 r1).mono ?_
  rintro x w2 ⟨rfl,r2,o2⟩
  have d2:=d1.block (o2.block _ (by omega))
  have G2:Below w.heap.size w w2:=o2.below (by omega) G1
  have s2:w2.heap.size=w.heap.size + 2:=by rw [o2.size,s1]
  clear o2 d1 G1 r1 s1
  obtain ⟨N,hN⟩:∃ N,R.num 2=N:=⟨_,rfl⟩
  rw [hN] at h0 h1 HK ⊢
  clear hN
  go_wp2_with fail
  refine (HK.out _ (HD.out.below G2)).mono ?_
  rintro x w3 ⟨rfl,g3⟩
  have d3:=d2.block (g3.block _ (by omega))
  have r3:=r2.below (by omega) g3
  have G3:Below w.heap.size w w3:=btr G2 g3 (by omega)
  have s3:w.heap.size + 2≤w3.heap.size:=by have:=g3.size;omega
  clear g3 d2 r2 G2 s2
  have t4:=W3.new w3 (K,0,0)
  have d4:W3 (tx w3 (K,0,0)) w.heap.size (0,0,0):=d3.block ((tx_below w3 (K,0,0)).block _ (by omega))
  have r4:=r3.below (by omega) (tx_below w3 (K,0,0))
  have G4:Below w.heap.size w (tx w3 (K,0,0)):=btr G3 (tx_below w3 (K,0,0)) (by omega)
  clear d3 r3 G3
  go_wp2_with fail
  refine (numR (w.heap.size + 1) (R.skip 2) 2 _ z2 r4).mono ?_
  rintro x w5 ⟨rfl,r5,o5⟩
  have t5:=t4.block (o5.block _ (by omega))
  have d5:=d4.block (o5.block _ (by omega))
  have G5:Below w.heap.size w w5:=o5.below (by omega) G4
  clear o5 t4 d4 r4 G4
  obtain ⟨B,hB⟩:∃ B,w3.heap.size=B:=⟨_,rfl⟩
  rw [hB] at t5 s3 ⊢
  clear hB
  have t5':=t5
  have d5':=d5
  obtain ⟨⟨c0,c1,c2⟩,cf⟩:=t5'
  obtain ⟨⟨e0,e1,e2⟩,ef⟩:=d5'
  go_wp2_with fail
  have d20:W3 _ w.heap.size (K,0,0):=((d5.set0 K).set1 0).set2 0
  refine bodyPost_ret (resT (b:=w.heap.size) (t:=(K,0,0)) rfl rfl d20.c) rfl ?_
  refine ⟨rfl,?_⟩
  exact ((G5.setCell (Nat.le_refl _) _).setCell (Nat.le_refl _) _).setCell (Nat.le_refl _) _
theorem read_1 (R:RS) (K:Int) (w:World) (hs:R.s.size≤maxLen) (he:R.e=0) (hd:Cd w) (hK:Hid (kindV (R.num 2)=K)) (b1:(K == 1)=true) :
    Calls Tryz.prog 151 #[.string R.s] w fun e w'=>e=.returned (tV (K,0,((R.skip 2).skip 2).num 4))∧Below w.heap.size w w':=by
  have z1:R.s.size≤maxLen:=hs
  have z2:=Nat.le_trans (RS.skip_size R 2) z1
  have z3:=Nat.le_trans (RS.skip_size (R.skip 2) 2) z2
  have z4:=Nat.le_trans (RS.skip_size ((R.skip 2).skip 2) 2) z3
  have z5:=Nat.le_trans (RS.skip_size (((R.skip 2).skip 2).skip 2) 1) z4
  have z6:=Nat.le_trans (RS.skip_size ((((R.skip 2).skip 2).skip 2).skip 1) 1) z5
  have hlt:=RS.num_lt R 2 (by omega)
  have h0:0≤R.num 2:=by simpa using hlt.1
  have h1:R.num 2 < 65536:=by simpa using hlt.2
  clear hlt
  have HK:Hid (∀ w,Cd w→Calls Tryz.prog 160 #[.int .i64 (R.num 2)] w fun e w'=>e=.returned (.int .i64 K)∧Below w.heap.size w w'):=(show ∀ w,_ from fun w hd=>by
    have:=kindOf_any (R.num 2) w hd
    rwa [hK.out] at this)
  have HR:Hid (Calls Tryz.prog 45 #[.string R.s] (tx w (0,0,0)) fun x w'=>x=.returned (.pointer (some ⟨w.heap.size + 1,0,none⟩))∧Rd w' (w.heap.size + 1) R.s R.e∧Below (w.heap.size + 1) (tx w (0,0,0)) w'∧w'.heap.size=w.heap.size + 2):=(show _ from by
    have:=rd_any R.s (tx w (0,0,0))
    rw [show (tx w (0,0,0)).heap.size=w.heap.size + 1 by simp] at this
    rw [he]
    exact this)
  have HD:Hid (Cd w):=hd
  clear hs he hK hd
  go_enter Tryz.func151,Tryz.ntmps151
  go_wp2_with fail
  refine HR.out.mono ?_
  rintro x w1 ⟨rfl,r1,g1,s1⟩
  have d1:W3 w1 w.heap.size (0,0,0):=(W3.new w (0,0,0)).block (g1.block _ (by omega))
  have G1:Below w.heap.size w w1:=(tx_below w (0,0,0)).trans (g1.mono (by omega))
  clear g1
  go_wp2_with fail
  refine (numR (w.heap.size + 1) R 2 _ z1 r1).mono ?_
  rintro x w2 ⟨rfl,r2,o2⟩
  have d2:=d1.block (o2.block _ (by omega))
  have G2:Below w.heap.size w w2:=o2.below (by omega) G1
  have s2:w2.heap.size=w.heap.size + 2:=by rw [o2.size,s1]
  clear o2 d1 G1 r1 s1
  obtain ⟨N,hN⟩:∃ N,R.num 2=N:=⟨_,rfl⟩
  rw [hN] at h0 h1 HK ⊢
  clear hN
  go_wp2_with fail
  refine (HK.out _ (HD.out.below G2)).mono ?_
  rintro x w3 ⟨rfl,g3⟩
  have d3:=d2.block (g3.block _ (by omega))
  have r3:=r2.below (by omega) g3
  have G3:Below w.heap.size w w3:=btr G2 g3 (by omega)
  have s3:w.heap.size + 2≤w3.heap.size:=by have:=g3.size;omega
  clear g3 d2 r2 G2 s2
  have t4:=W3.new w3 (K,0,0)
  have d4:W3 (tx w3 (K,0,0)) w.heap.size (0,0,0):=d3.block ((tx_below w3 (K,0,0)).block _ (by omega))
  have r4:=r3.below (by omega) (tx_below w3 (K,0,0))
  have G4:Below w.heap.size w (tx w3 (K,0,0)):=btr G3 (tx_below w3 (K,0,0)) (by omega)
  clear d3 r3 G3
  go_wp2_with fail
  refine (numR (w.heap.size + 1) (R.skip 2) 2 _ z2 r4).mono ?_
  rintro x w5 ⟨rfl,r5,o5⟩
  have t5:=t4.block (o5.block _ (by omega))
  have d5:=d4.block (o5.block _ (by omega))
  have G5:Below w.heap.size w w5:=o5.below (by omega) G4
  clear o5 t4 d4 r4 G4
  obtain ⟨B,hB⟩:∃ B,w3.heap.size=B:=⟨_,rfl⟩
  rw [hB] at t5 s3 ⊢
  clear hB
  have t5':=t5
  have d5':=d5
  obtain ⟨⟨c0,c1,c2⟩,cf⟩:=t5'
  obtain ⟨⟨e0,e1,e2⟩,ef⟩:=d5'
  go_wp2_with fail
  clear c0 c1 c2 cf e0 e1 e2 ef
  refine (numR (w.heap.size + 1) ((R.skip 2).skip 2) 4 _ z3 r5).mono ?_
  rintro x w6 ⟨rfl,r6,o6⟩
  have t6:=t5.block (o6.block _ (by omega))
  have d6:=d5.block (o6.block _ (by omega))
  have G6:Below w.heap.size w w6:=o6.below (by omega) G5
  clear o6 t5 d5 r5 G5 r6
  obtain ⟨V,hV⟩:∃ V,((R.skip 2).skip 2).num 4=V:=⟨_,rfl⟩
  have HV:Hid (((R.skip 2).skip 2).num 4=V):=hV
  rw [hV]
  clear hV
  have t6':=t6
  have d6':=d6
  obtain ⟨⟨c0,c1,c2⟩,cf⟩:=t6'
  obtain ⟨⟨e0,e1,e2⟩,ef⟩:=d6'
  go_wp2_with fail
  have d7:=d6.block (Below.heap_setCell w6 ⟨B,2,none⟩ (.int .u64 V) w.heap.size (show w.heap.size≠B by omega))
  have d20:W3 _ w.heap.size (K,0,V):=((d7.set0 K).set1 0).set2 V
  refine bodyPost_ret (resT (b:=w.heap.size) (t:=(K,0,V)) rfl rfl d20.c) rfl ?_
  refine ⟨by rw [HV.out],?_⟩
  exact (((G6.setCell (show w.heap.size≤B by omega) _).setCell (Nat.le_refl _) _).setCell (Nat.le_refl _) _).setCell (Nat.le_refl _) _
theorem read_2 (R:RS) (K:Int) (w:World) (hs:R.s.size≤maxLen) (he:R.e=0) (hd:Cd w) (hK:Hid (kindV (R.num 2)=K)) (b1:(K == 1)=false) (b2:(K == 2)=true) :
    Calls Tryz.prog 151 #[.string R.s] w fun e w'=>e=.returned (tV (K,0,((R.skip 2).skip 2).num 4))∧Below w.heap.size w w':=by
  have z1:R.s.size≤maxLen:=hs
  have z2:=Nat.le_trans (RS.skip_size R 2) z1
  have z3:=Nat.le_trans (RS.skip_size (R.skip 2) 2) z2
  have z4:=Nat.le_trans (RS.skip_size ((R.skip 2).skip 2) 2) z3
  have z5:=Nat.le_trans (RS.skip_size (((R.skip 2).skip 2).skip 2) 1) z4
  have z6:=Nat.le_trans (RS.skip_size ((((R.skip 2).skip 2).skip 2).skip 1) 1) z5
  have hlt:=RS.num_lt R 2 (by omega)
  have h0:0≤R.num 2:=by simpa using hlt.1
  have h1:R.num 2 < 65536:=by simpa using hlt.2
  clear hlt
  have HK:Hid (∀ w,Cd w→Calls Tryz.prog 160 #[.int .i64 (R.num 2)] w fun e w'=>e=.returned (.int .i64 K)∧Below w.heap.size w w'):=(show ∀ w,_ from fun w hd=>by
    have:=kindOf_any (R.num 2) w hd
    rwa [hK.out] at this)
  have HR:Hid (Calls Tryz.prog 45 #[.string R.s] (tx w (0,0,0)) fun x w'=>x=.returned (.pointer (some ⟨w.heap.size + 1,0,none⟩))∧Rd w' (w.heap.size + 1) R.s R.e∧Below (w.heap.size + 1) (tx w (0,0,0)) w'∧w'.heap.size=w.heap.size + 2):=(show _ from by
    have:=rd_any R.s (tx w (0,0,0))
    rw [show (tx w (0,0,0)).heap.size=w.heap.size + 1 by simp] at this
    rw [he]
    exact this)
  have HD:Hid (Cd w):=hd
  clear hs he hK hd
  go_enter Tryz.func151,Tryz.ntmps151
  go_wp2_with fail
  refine HR.out.mono ?_
  rintro x w1 ⟨rfl,r1,g1,s1⟩
  have d1:W3 w1 w.heap.size (0,0,0):=(W3.new w (0,0,0)).block (g1.block _ (by omega))
  have G1:Below w.heap.size w w1:=(tx_below w (0,0,0)).trans (g1.mono (by omega))
  clear g1
  go_wp2_with fail
  refine (numR (w.heap.size + 1) R 2 _ z1 r1).mono ?_
  rintro x w2 ⟨rfl,r2,o2⟩
  have d2:=d1.block (o2.block _ (by omega))
  have G2:Below w.heap.size w w2:=o2.below (by omega) G1
  have s2:w2.heap.size=w.heap.size + 2:=by rw [o2.size,s1]
  clear o2 d1 G1 r1 s1
  obtain ⟨N,hN⟩:∃ N,R.num 2=N:=⟨_,rfl⟩
  rw [hN] at h0 h1 HK ⊢
  clear hN
  go_wp2_with fail
  refine (HK.out _ (HD.out.below G2)).mono ?_
  rintro x w3 ⟨rfl,g3⟩
  have d3:=d2.block (g3.block _ (by omega))
  have r3:=r2.below (by omega) g3
  have G3:Below w.heap.size w w3:=btr G2 g3 (by omega)
  have s3:w.heap.size + 2≤w3.heap.size:=by have:=g3.size;omega
  clear g3 d2 r2 G2 s2
  have t4:=W3.new w3 (K,0,0)
  have d4:W3 (tx w3 (K,0,0)) w.heap.size (0,0,0):=d3.block ((tx_below w3 (K,0,0)).block _ (by omega))
  have r4:=r3.below (by omega) (tx_below w3 (K,0,0))
  have G4:Below w.heap.size w (tx w3 (K,0,0)):=btr G3 (tx_below w3 (K,0,0)) (by omega)
  clear d3 r3 G3
  go_wp2_with fail
  refine (numR (w.heap.size + 1) (R.skip 2) 2 _ z2 r4).mono ?_
  rintro x w5 ⟨rfl,r5,o5⟩
  have t5:=t4.block (o5.block _ (by omega))
  have d5:=d4.block (o5.block _ (by omega))
  have G5:Below w.heap.size w w5:=o5.below (by omega) G4
  clear o5 t4 d4 r4 G4
  obtain ⟨B,hB⟩:∃ B,w3.heap.size=B:=⟨_,rfl⟩
  rw [hB] at t5 s3 ⊢
  clear hB
  have t5':=t5
  have d5':=d5
  obtain ⟨⟨c0,c1,c2⟩,cf⟩:=t5'
  obtain ⟨⟨e0,e1,e2⟩,ef⟩:=d5'
  go_wp2_with fail
  clear c0 c1 c2 cf e0 e1 e2 ef
  refine (numR (w.heap.size + 1) ((R.skip 2).skip 2) 4 _ z3 r5).mono ?_
  rintro x w6 ⟨rfl,r6,o6⟩
  have t6:=t5.block (o6.block _ (by omega))
  have d6:=d5.block (o6.block _ (by omega))
  have G6:Below w.heap.size w w6:=o6.below (by omega) G5
  clear o6 t5 d5 r5 G5 r6
  obtain ⟨V,hV⟩:∃ V,((R.skip 2).skip 2).num 4=V:=⟨_,rfl⟩
  have HV:Hid (((R.skip 2).skip 2).num 4=V):=hV
  rw [hV]
  clear hV
  have t6':=t6
  have d6':=d6
  obtain ⟨⟨c0,c1,c2⟩,cf⟩:=t6'
  obtain ⟨⟨e0,e1,e2⟩,ef⟩:=d6'
  go_wp2_with fail
  have d7:=d6.block (Below.heap_setCell w6 ⟨B,2,none⟩ (.int .u64 V) w.heap.size (show w.heap.size≠B by omega))
  have d20:W3 _ w.heap.size (K,0,V):=((d7.set0 K).set1 0).set2 V
  refine bodyPost_ret (resT (b:=w.heap.size) (t:=(K,0,V)) rfl rfl d20.c) rfl ?_
  refine ⟨by rw [HV.out],?_⟩
  exact (((G6.setCell (show w.heap.size≤B by omega) _).setCell (Nat.le_refl _) _).setCell (Nat.le_refl _) _).setCell (Nat.le_refl _) _
theorem read_5 (R:RS) (K:Int) (w:World) (hs:R.s.size≤maxLen) (he:R.e=0) (hd:Cd w) (hK:Hid (kindV (R.num 2)=K)) (F:Int) (hF:Hid (fldV ((((R.skip 2).skip 2).skip 2).num 1 / 2)=F)) (b1:(K == 1)=false) (b2:(K == 2)=false) (b5:(K == 5)=true) :
    Calls Tryz.prog 151 #[.string R.s] w fun e w'=>e=.returned (tV (K,F,(((((R.skip 2).skip 2).skip 2).skip 1).skip 1).num (szV F)))∧Below w.heap.size w w':=by
  have z1:R.s.size≤maxLen:=hs
  have z2:=Nat.le_trans (RS.skip_size R 2) z1
  have z3:=Nat.le_trans (RS.skip_size (R.skip 2) 2) z2
  have z4:=Nat.le_trans (RS.skip_size ((R.skip 2).skip 2) 2) z3
  have z5:=Nat.le_trans (RS.skip_size (((R.skip 2).skip 2).skip 2) 1) z4
  have z6:=Nat.le_trans (RS.skip_size ((((R.skip 2).skip 2).skip 2).skip 1) 1) z5
  have hlt:=RS.num_lt R 2 (by omega)
  have h0:0≤R.num 2:=by simpa using hlt.1
  have h1:R.num 2 < 65536:=by simpa using hlt.2
  clear hlt
  have HK:Hid (∀ w,Cd w→Calls Tryz.prog 160 #[.int .i64 (R.num 2)] w fun e w'=>e=.returned (.int .i64 K)∧Below w.heap.size w w'):=(show ∀ w,_ from fun w hd=>by
    have:=kindOf_any (R.num 2) w hd
    rwa [hK.out] at this)
  have HR:Hid (Calls Tryz.prog 45 #[.string R.s] (tx w (0,0,0)) fun x w'=>x=.returned (.pointer (some ⟨w.heap.size + 1,0,none⟩))∧Rd w' (w.heap.size + 1) R.s R.e∧Below (w.heap.size + 1) (tx w (0,0,0)) w'∧w'.heap.size=w.heap.size + 2):=(show _ from by
    have:=rd_any R.s (tx w (0,0,0))
    rw [show (tx w (0,0,0)).heap.size=w.heap.size + 1 by simp] at this
    rw [he]
    exact this)
  have HD:Hid (Cd w):=hd
  have hl2:=RS.num_lt (((R.skip 2).skip 2).skip 2) 1 (by omega)
  have y0:0≤(((R.skip 2).skip 2).skip 2).num 1:=by simpa using hl2.1
  have y1:(((R.skip 2).skip 2).skip 2).num 1 < 256:=by simpa using hl2.2
  have HF:Hid (∀ w,Cd w→Calls Tryz.prog 161 #[.int .i64 ((((R.skip 2).skip 2).skip 2).num 1 / 2)] w fun e w'=>e=.returned (.int .i64 F)∧Below w.heap.size w w'):=(show ∀ w,_ from fun w hd=>by
    have:=fieldOf_any ((((R.skip 2).skip 2).skip 2).num 1 / 2) w hd
    rwa [hF.out] at this)
  have HB:Hid (∀ w,Calls Tryz.prog 157 #[.int .i64 F] w fun e w'=>e=.returned (.int .i64 (szV F))∧w'=w):=(show ∀ w,_ from fun w=>bytesOf_any F w)
  clear hl2 hF
  clear hs he hK hd
  go_enter Tryz.func151,Tryz.ntmps151
  go_wp2_with fail
  refine HR.out.mono ?_
  rintro x w1 ⟨rfl,r1,g1,s1⟩
  have d1:W3 w1 w.heap.size (0,0,0):=(W3.new w (0,0,0)).block (g1.block _ (by omega))
  have G1:Below w.heap.size w w1:=(tx_below w (0,0,0)).trans (g1.mono (by omega))
  clear g1
  go_wp2_with fail
  refine (numR (w.heap.size + 1) R 2 _ z1 r1).mono ?_
  rintro x w2 ⟨rfl,r2,o2⟩
  have d2:=d1.block (o2.block _ (by omega))
  have G2:Below w.heap.size w w2:=o2.below (by omega) G1
  have s2:w2.heap.size=w.heap.size + 2:=by rw [o2.size,s1]
  clear o2 d1 G1 r1 s1
  obtain ⟨N,hN⟩:∃ N,R.num 2=N:=⟨_,rfl⟩
  rw [hN] at h0 h1 HK ⊢
  clear hN
  go_wp2_with fail
  refine (HK.out _ (HD.out.below G2)).mono ?_
  rintro x w3 ⟨rfl,g3⟩
  have d3:=d2.block (g3.block _ (by omega))
  have r3:=r2.below (by omega) g3
  have G3:Below w.heap.size w w3:=btr G2 g3 (by omega)
  have s3:w.heap.size + 2≤w3.heap.size:=by have:=g3.size;omega
  clear g3 d2 r2 G2 s2
  have t4:=W3.new w3 (K,0,0)
  have d4:W3 (tx w3 (K,0,0)) w.heap.size (0,0,0):=d3.block ((tx_below w3 (K,0,0)).block _ (by omega))
  have r4:=r3.below (by omega) (tx_below w3 (K,0,0))
  have G4:Below w.heap.size w (tx w3 (K,0,0)):=btr G3 (tx_below w3 (K,0,0)) (by omega)
  clear d3 r3 G3
  go_wp2_with fail
  refine (numR (w.heap.size + 1) (R.skip 2) 2 _ z2 r4).mono ?_
  rintro x w5 ⟨rfl,r5,o5⟩
  have t5:=t4.block (o5.block _ (by omega))
  have d5:=d4.block (o5.block _ (by omega))
  have G5:Below w.heap.size w w5:=o5.below (by omega) G4
  clear o5 t4 d4 r4 G4
  obtain ⟨B,hB⟩:∃ B,w3.heap.size=B:=⟨_,rfl⟩
  rw [hB] at t5 s3 ⊢
  clear hB
  have t5':=t5
  have d5':=d5
  obtain ⟨⟨c0,c1,c2⟩,cf⟩:=t5'
  obtain ⟨⟨e0,e1,e2⟩,ef⟩:=d5'
  go_wp2_with fail
  clear c0 c1 c2 cf e0 e1 e2 ef
  refine (numR (w.heap.size + 1) ((R.skip 2).skip 2) 2 _ z3 r5).mono ?_
  rintro x w6 ⟨rfl,r6,o6⟩
  have t6:=t5.block (o6.block _ (by omega))
  have d6:=d5.block (o6.block _ (by omega))
  have G6:Below w.heap.size w w6:=o6.below (by omega) G5
  clear o6 t5 d5 r5 G5
  go_wp2_with fail
  refine (numR (w.heap.size + 1) (((R.skip 2).skip 2).skip 2) 1 _ z4 r6).mono ?_
  rintro x w7 ⟨rfl,r7,o7⟩
  have t7:=t6.block (o7.block _ (by omega))
  have d7:=d6.block (o7.block _ (by omega))
  have G7:Below w.heap.size w w7:=o7.below (by omega) G6
  clear o7 t6 d6 r6 G6
  obtain ⟨Y,hY⟩:∃ Y,(((R.skip 2).skip 2).skip 2).num 1=Y:=⟨_,rfl⟩
  rw [hY] at y0 y1 HF ⊢
  clear hY
  go_wp2_with fail
  have l7:B < w7.heap.size:=World.block_lt_of_cell? w7 ⟨B,0,none⟩ t7.c.1
  refine (HF.out _ (HD.out.below G7)).mono ?_
  rintro x w8 ⟨rfl,g8⟩
  have t8:=t7.block (g8.block _ l7)
  have d8:=d7.block (g8.block _ (by omega))
  have r8:=r7.below (by omega) g8
  have G8:Below w.heap.size w w8:=btr G7 g8 (by omega)
  clear g8 t7 d7 r7 G7 l7
  have t8':=t8
  obtain ⟨⟨c0,c1,c2⟩,cf⟩:=t8'
  go_wp2_with fail
  have t9:W3 (w8.setCell ⟨B,1,none⟩ (.int .i64 F)) B (K,F,0):=t8.set1 F
  have d9:=d8.block (Below.heap_setCell w8 ⟨B,1,none⟩ (.int .i64 F) w.heap.size (show w.heap.size≠B by omega))
  have r9:=r8.set (c:=B) (by omega) 1 (.int .i64 F)
  have G9:Below w.heap.size w (w8.setCell ⟨B,1,none⟩ (.int .i64 F)):=G8.setCell (show w.heap.size≤B by omega) _
  clear c0 c1 c2 cf t8 d8 r8 G8
  generalize w8.setCell ⟨B,1,none⟩ (.int .i64 F)=w9 at *
  refine (numR (w.heap.size + 1) ((((R.skip 2).skip 2).skip 2).skip 1) 1 _ z5 r9).mono ?_
  rintro x w10 ⟨rfl,r10,o10⟩
  have t10:=t9.block (o10.block _ (by omega))
  have d10:=d9.block (o10.block _ (by omega))
  have G10:Below w.heap.size w w10:=o10.below (by omega) G9
  clear o10 t9 d9 r9 G9
  have t10':=t10
  obtain ⟨⟨c0,c1,c2⟩,cf⟩:=t10'
  go_wp2_with fail
  refine (HB.out _).mono ?_
  rintro x w11 ⟨rfl,rfl⟩
  clear c0 c1 c2 cf
  go_wp2_with fail
  refine (numR (w.heap.size + 1) (((((R.skip 2).skip 2).skip 2).skip 1).skip 1) (szV F) _ z6 r10).mono ?_
  rintro x w12 ⟨rfl,r12,o12⟩
  have t12:=t10.block (o12.block _ (by omega))
  have d12:=d10.block (o12.block _ (by omega))
  have G12:Below w.heap.size w w12:=o12.below (by omega) G10
  clear o12 t10 d10 r10 G10 r12
  obtain ⟨V,hV⟩:∃ V,(((((R.skip 2).skip 2).skip 2).skip 1).skip 1).num (szV F)=V:=⟨_,rfl⟩
  have HV:Hid ((((((R.skip 2).skip 2).skip 2).skip 1).skip 1).num (szV F)=V):=hV
  rw [hV]
  clear hV
  have t12':=t12
  have d12':=d12
  obtain ⟨⟨c0,c1,c2⟩,cf⟩:=t12'
  obtain ⟨⟨e0,e1,e2⟩,ef⟩:=d12'
  go_wp2_with fail
  have d13:=d12.block (Below.heap_setCell w12 ⟨B,2,none⟩ (.int .u64 V) w.heap.size (show w.heap.size≠B by omega))
  have d20:W3 _ w.heap.size (K,F,V):=((d13.set0 K).set1 F).set2 V
  refine bodyPost_ret (resT (b:=w.heap.size) (t:=(K,F,V)) rfl rfl d20.c) rfl ?_
  refine ⟨by rw [HV.out],?_⟩
  exact (((G12.setCell (show w.heap.size≤B by omega) _).setCell (Nat.le_refl _) _).setCell (Nat.le_refl _) _).setCell (Nat.le_refl _) _
theorem readA_any (d:ByteArray) (w:World) (hs:d.size≤maxLen) (hd:Cd w) :
    Calls Tryz.prog 151 #[.string d] w fun e w'=>e=.returned (tV (readV d))∧Below w.heap.size w w':=by
  unfold readV
  obtain ⟨R,hR⟩:∃ R:RS,(⟨d,0⟩:RS)=R:=⟨_,rfl⟩
  have hRs:d=R.s:=by rw [← hR]
  have hRe:R.e=0:=by rw [← hR]
  rw [hR]
  rw [hRs] at hs ⊢
  clear hR hRs
  by_cases h1:kindV (R.num 2)=1
  · rw [if_pos (.inl h1)]
    exact read_1 R _ w hs hRe hd (show _=_ from rfl) (by simp [h1])
  · by_cases h2:kindV (R.num 2)=2
    · rw [if_pos (.inr h2)]
      exact read_2 R _ w hs hRe hd (show _=_ from rfl) (by simp [h1]) (by simp [h2])
    · rw [if_neg (by simp [h1,h2])]
      by_cases h5:kindV (R.num 2)=5
      · rw [if_pos h5]
        have:=read_5 R _ w hs hRe hd (show kindV (R.num 2)=5 from h5) _ (show _=_ from rfl) (by decide) (by decide) (by decide)
        exact this
      · rw [if_neg h5]
        exact read_n R _ w hs hRe hd (show _=_ from rfl) (by simp [h1]) (by simp [h2]) (by simp [h5])
theorem slice_lh (s:ByteArray) (i j:Int) (h0:0≤i) (h1:i≤j) (h2:j≤s.size) (w:World):(Instr.slice 9 (.string s) (some (.int .i64 i)) (some (.int .i64 j)) none).run Tryz.prog w=.ok (.string (s.extract i.toNat j.toNat)) w:=by
 rw [run_slice_string_if (h:=Tryz.underlying9),if_pos ⟨by omega,h2⟩,if_pos ⟨h0,h1⟩]
theorem slice_h (s:ByteArray) (j:Int) (h0:0≤j) (h2:j≤s.size) (w:World):(Instr.slice 9 (.string s) none (some (.int .i64 j)) none).run Tryz.prog w=.ok (.string (s.extract 0 j.toNat)) w :=
 by rw [run_slice_string_h (ht:=Tryz.underlying9) (h0:=h0) (h2:=h2)]
theorem slice_l (s:ByteArray) (j:Int) (h0:0≤j) (h2:j≤s.size) (w:World):(Instr.slice 9 (.string s) (some (.int .i64 j)) none none).run Tryz.prog w=.ok (.string (s.extract j.toNat s.size)) w :=
 by rw [run_slice_string_l (ht:=Tryz.underlying9) (h0:=h0) (h1:=h2)]
theorem resT3 {fn:Func} {k u v:Tmp} (h:fn.results=#[.cell k 106,.tmp u,.tmp v]) {tmps:Array Value} {w:World} {b:Nat} {t:A} (ht:tmps.getD k undef=.pointer (some ⟨b,0,none⟩)) (hs:C3 w b 0 t) :
    (results fn tmps).run Tryz.prog w=.ok (.tuple #[tV t,tmps.getD u undef,tmps.getD v undef]) w:=by
  have ht':tmps[k]?.getD undef=.pointer (some ⟨b,0,none⟩):=by simpa using ht
  simp [results,h,ht',asAddr,loadT w b t hs]
def NopeF (w:World) (k:Int) (e:Ending) (w':World):Prop:=e=.returned (.tuple #[tV (0,0,0),.int .i64 0,.int .i64 k])∧Below w.heap.size w w'
theorem first_short (d:ByteArray) (w:World) (h:d.size < 4):Calls Tryz.prog 135 #[.string d] w (NopeF w 10):=by
 have h':(d.size:Int) < 4:=by omega
 clear h
 unfold NopeF
 go_enter Tryz.func135,Tryz.ntmps135
 go_wp2_with fail
 refine bodyPost_ret (resT3 (b:=w.heap.size) (t:=(0,0,0)) rfl rfl (C3.new w (0,0,0))) rfl ?_
 exact ⟨rfl,by go_grown⟩
theorem first_end (d:ByteArray) (w:World) (hs:d.size≤maxLen) (h:4≤d.size) (h2:(d.size:Int) < sizeV d):Calls Tryz.prog 135 #[.string d] w (NopeF w 10):=by
 have h' : ¬ ((d.size:Int) < 4):=by omega
 obtain ⟨z0,z1⟩:=sizeV_range d
 have hsl:∀ w,(Instr.slice 9 (.string d) (some (.int .i64 2)) (some (.int .i64 4)) none).run Tryz.prog w=.ok (.string (d.extract 2 4)) w:=fun w=>slice_lh d 2 4 (by omega) (by omega) (by omega) w
 have hx:(d.extract 2 4).size≤maxLen:=by rw [ByteArray.size_extract];omega
 have HR:Hid (Calls Tryz.prog 45 #[.string (d.extract 2 4)] (tx w (0,0,0)) fun x w'=>x=.returned (.pointer (some ⟨w.heap.size + 1,0,none⟩))∧Rd w' (w.heap.size + 1) (d.extract 2 4) 0∧Below (w.heap.size + 1) (tx w (0,0,0)) w'∧w'.heap.size=w.heap.size + 2):=(show _ from by
  have:=rd_any (d.extract 2 4) (tx w (0,0,0))
  rw [show (tx w (0,0,0)).heap.size=w.heap.size + 1 by simp] at this
  exact this)
 have HN:Hid (∀ w1 b,Rd w1 b (d.extract 2 4) 0→Calls Tryz.prog 46 #[.pointer (some ⟨b,0,none⟩),.int .i64 2] w1 fun x w'=>x=.returned (.int .u64 (sizeV d))∧Only b w1 w'):=(show ∀ w1 b,_ from fun w1 b r=>by
  refine (numR b ⟨d.extract 2 4,0⟩ 2 w1 hx r).mono ?_
  rintro x w' ⟨rfl,_,o⟩
  exact ⟨rfl,o⟩)
 unfold NopeF
 clear hs h hx
 generalize d.extract 2 4=X at *
 generalize sizeV d=Z at *
 go_enter Tryz.func135,Tryz.ntmps135
 go_wp2_with fail
 refine HR.out.mono ?_
 rintro x w1 ⟨rfl,r1,g1,s1⟩
 have d1:W3 w1 w.heap.size (0,0,0):=(W3.new w (0,0,0)).block (g1.block _ (by omega))
 have G1:Below w.heap.size w w1:=(tx_below w (0,0,0)).trans (g1.mono (by omega))
 clear g1
 go_wp2_with fail
 refine (HN.out _ _ r1).mono ?_
 rintro x w2 ⟨rfl,o2⟩
 have d2:=d1.block (o2.block _ (by omega))
 have G2:Below w.heap.size w w2:=o2.below (by omega) G1
 have s2:w2.heap.size=w.heap.size + 2:=by rw [o2.size,s1]
 clear o2 d1 G1 r1 s1
 have d2':=d2
 obtain ⟨⟨e0,e1,e2⟩,ef⟩:=d2'
 go_wp2_with fail
 have d20:W3 _ w.heap.size (0,0,0):=((d2.set0 0).set1 0).set2 0
 refine bodyPost_ret (resT3 (b:=w.heap.size) (t:=(0,0,0)) rfl rfl d20.c) rfl ?_
 exact ⟨rfl,((G2.setCell (Nat.le_refl _) _).setCell (Nat.le_refl _) _).setCell (Nat.le_refl _) _⟩
theorem first_low (d:ByteArray) (w:World) (hs:d.size≤maxLen) (h:4≤d.size) (h2:sizeV d≤d.size) (h3:sizeV d < 8):Calls Tryz.prog 135 #[.string d] w (NopeF w 11):=by
 have h' : ¬ ((d.size:Int) < 4):=by omega
 obtain ⟨z0,z1⟩:=sizeV_range d
 have hsl:∀ w,(Instr.slice 9 (.string d) (some (.int .i64 2)) (some (.int .i64 4)) none).run Tryz.prog w=.ok (.string (d.extract 2 4)) w:=fun w=>slice_lh d 2 4 (by omega) (by omega) (by omega) w
 have hx:(d.extract 2 4).size≤maxLen:=by rw [ByteArray.size_extract];omega
 have HR:Hid (Calls Tryz.prog 45 #[.string (d.extract 2 4)] (tx w (0,0,0)) fun x w'=>x=.returned (.pointer (some ⟨w.heap.size + 1,0,none⟩))∧Rd w' (w.heap.size + 1) (d.extract 2 4) 0∧Below (w.heap.size + 1) (tx w (0,0,0)) w'∧w'.heap.size=w.heap.size + 2):=(show _ from by
  have:=rd_any (d.extract 2 4) (tx w (0,0,0))
  rw [show (tx w (0,0,0)).heap.size=w.heap.size + 1 by simp] at this
  exact this)
 have HN:Hid (∀ w1 b,Rd w1 b (d.extract 2 4) 0→Calls Tryz.prog 46 #[.pointer (some ⟨b,0,none⟩),.int .i64 2] w1 fun x w'=>x=.returned (.int .u64 (sizeV d))∧Only b w1 w'):=(show ∀ w1 b,_ from fun w1 b r=>by
  refine (numR b ⟨d.extract 2 4,0⟩ 2 w1 hx r).mono ?_
  rintro x w' ⟨rfl,_,o⟩
  exact ⟨rfl,o⟩)
 have h2' : ¬ ((d.size:Int) < sizeV d):=by omega
 clear h2
 unfold NopeF
 clear hs h hx
 generalize d.extract 2 4=X at *
 generalize sizeV d=Z at *
 go_enter Tryz.func135,Tryz.ntmps135
 go_wp2_with fail
 refine HR.out.mono ?_
 rintro x w1 ⟨rfl,r1,g1,s1⟩
 have d1:W3 w1 w.heap.size (0,0,0):=(W3.new w (0,0,0)).block (g1.block _ (by omega))
 have G1:Below w.heap.size w w1:=(tx_below w (0,0,0)).trans (g1.mono (by omega))
 clear g1
 go_wp2_with fail
 refine (HN.out _ _ r1).mono ?_
 rintro x w2 ⟨rfl,o2⟩
 have d2:=d1.block (o2.block _ (by omega))
 have G2:Below w.heap.size w w2:=o2.below (by omega) G1
 have s2:w2.heap.size=w.heap.size + 2:=by rw [o2.size,s1]
 clear o2 d1 G1 r1 s1
 have d2':=d2
 obtain ⟨⟨e0,e1,e2⟩,ef⟩:=d2'
 go_wp2_with fail
 have d20:W3 _ w.heap.size (0,0,0):=((d2.set0 0).set1 0).set2 0
 refine bodyPost_ret (resT3 (b:=w.heap.size) (t:=(0,0,0)) rfl rfl d20.c) rfl ?_
 exact ⟨rfl,((G2.setCell (Nat.le_refl _) _).setCell (Nat.le_refl _) _).setCell (Nat.le_refl _) _⟩
theorem first_wrong (d:ByteArray) (w:World) (hs:d.size≤maxLen) (h:4≤d.size) (hd:Cd w) (h2:sizeV d≤d.size) (h3:8≤sizeV d) (h4:rightB (readV (d.extract 0 (sizeV d).toNat))=false):Calls Tryz.prog 135 #[.string d] w (NopeF w 11):=by
 have h' : ¬ ((d.size:Int) < 4):=by omega
 obtain ⟨z0,z1⟩:=sizeV_range d
 have hsl:∀ w,(Instr.slice 9 (.string d) (some (.int .i64 2)) (some (.int .i64 4)) none).run Tryz.prog w=.ok (.string (d.extract 2 4)) w:=fun w=>slice_lh d 2 4 (by omega) (by omega) (by omega) w
 have hx:(d.extract 2 4).size≤maxLen:=by rw [ByteArray.size_extract];omega
 have HR:Hid (Calls Tryz.prog 45 #[.string (d.extract 2 4)] (tx w (0,0,0)) fun x w'=>x=.returned (.pointer (some ⟨w.heap.size + 1,0,none⟩))∧Rd w' (w.heap.size + 1) (d.extract 2 4) 0∧Below (w.heap.size + 1) (tx w (0,0,0)) w'∧w'.heap.size=w.heap.size + 2):=(show _ from by
  have:=rd_any (d.extract 2 4) (tx w (0,0,0))
  rw [show (tx w (0,0,0)).heap.size=w.heap.size + 1 by simp] at this
  exact this)
 have HN:Hid (∀ w1 b,Rd w1 b (d.extract 2 4) 0→Calls Tryz.prog 46 #[.pointer (some ⟨b,0,none⟩),.int .i64 2] w1 fun x w'=>x=.returned (.int .u64 (sizeV d))∧Only b w1 w'):=(show ∀ w1 b,_ from fun w1 b r=>by
  refine (numR b ⟨d.extract 2 4,0⟩ 2 w1 hx r).mono ?_
  rintro x w' ⟨rfl,_,o⟩
  exact ⟨rfl,o⟩)
 have h2' : ¬ ((d.size:Int) < sizeV d):=by omega
 have h3' : ¬ (sizeV d < 8):=by omega
 have hsl2:∀ w,(Instr.slice 9 (.string d) none (some (.int .i64 (sizeV d))) none).run Tryz.prog w=.ok (.string (d.extract 0 (sizeV d).toNat)) w:=fun w=>slice_h d _ z0 h2 w
 have hy:(d.extract 0 (sizeV d).toNat).size≤maxLen:=by rw [ByteArray.size_extract];omega
 have HA:Hid (∀ w,Cd w→Calls Tryz.prog 151 #[.string (d.extract 0 (sizeV d).toNat)] w fun e w'=>e=.returned (tV (readV (d.extract 0 (sizeV d).toNat)))∧Below w.heap.size w w'):=(show ∀ w,_ from fun w hd=>readA_any _ w hy hd)
 have HG:Hid (∀ w,Cd w→Calls Tryz.prog 140 #[tV (readV (d.extract 0 (sizeV d).toNat))] w fun e w'=>e=.returned (.bool false)∧Below w.heap.size w w'):=(show ∀ w,_ from fun w hd=>by
  have:=right_any (readV (d.extract 0 (sizeV d).toNat)) w hd
  rwa [h4] at this)
 have HD:Hid (Cd w):=hd
 clear hy h2 h3 h4 hd
 unfold NopeF
 generalize d.extract 0 (sizeV d).toNat=Y at *
 generalize readV Y=T at *
 clear hs h hx
 generalize d.extract 2 4=X at *
 generalize sizeV d=Z at *
 go_enter Tryz.func135,Tryz.ntmps135
 go_wp2_with fail
 refine HR.out.mono ?_
 rintro x w1 ⟨rfl,r1,g1,s1⟩
 have d1:W3 w1 w.heap.size (0,0,0):=(W3.new w (0,0,0)).block (g1.block _ (by omega))
 have G1:Below w.heap.size w w1:=(tx_below w (0,0,0)).trans (g1.mono (by omega))
 clear g1
 go_wp2_with fail
 refine (HN.out _ _ r1).mono ?_
 rintro x w2 ⟨rfl,o2⟩
 have d2:=d1.block (o2.block _ (by omega))
 have G2:Below w.heap.size w w2:=o2.below (by omega) G1
 have s2:w2.heap.size=w.heap.size + 2:=by rw [o2.size,s1]
 clear o2 d1 G1 r1 s1
 go_wp2_with fail
 refine (HA.out _ (HD.out.below G2)).mono ?_
 rintro x w3 ⟨rfl,g3⟩
 have d3:=d2.block (g3.block _ (by omega))
 have G3:Below w.heap.size w w3:=btr G2 g3 (by omega)
 have s3:w.heap.size + 2≤w3.heap.size:=by have:=g3.size;omega
 clear g3 d2 G2 s2
 have t4:=C3.new w3 T
 have d4:W3 (tx w3 T) w.heap.size (0,0,0):=d3.block ((tx_below w3 T).block _ (by omega))
 have G4:Below w.heap.size w (tx w3 T):=btr G3 (tx_below w3 T) (by omega)
 have e4:(tx w3 T).heap.size=w3.heap.size + 1:=by simp
 obtain ⟨W4,hW4⟩:∃ W4,tx w3 T=W4:=⟨_,rfl⟩
 rw [hW4] at t4 d4 G4 e4
 have HW4:Hid (tx w3 T=W4):=hW4
 obtain ⟨B,hB⟩:∃ B,w3.heap.size=B:=⟨_,rfl⟩
 have qa:∀ n:GrT W4,C3 n.w w3.heap.size 0 T:=fun n=>t4.below (by omega) n.h
 have HDn:Hid (∀ n:GrT W4,Cd n.w):=(show ∀ n:GrT W4,Cd n.w from fun n=>(HD.out.below G4).below n.h)
 clear d3 G3 hW4 hB
 go_wp2_with fail
 have hW:=HW4.out
 simp only [tx,tC] at hW
 rw [hW]
 clear hW
 refine wp_region_grow (by kernel_rfl) (by kernel_rfl) ?_
 repeat (go_big_quiet_step ((first | (go_at_call 140;exact quiet_gr (HG.out _ (HDn.out _))))))
 refine wpQuiet_nil ?_
 rintro w5 hw'
 have g5:=gr_elim hw'
 clear hw' qa
 have d5:=d4.block (g5.block _ (by omega))
 have t5:=t4.below (by omega) g5
 have G5:Below w.heap.size w w5:=btr G4 g5 (by omega)
 clear g5 d4 t4 G4 HW4
 have d5':=d5
 obtain ⟨⟨e0,e1,e2⟩,ef⟩:=d5'
 obtain ⟨c0,c1,c2⟩:=t5
 go_wp2_with fail
 have d20:W3 _ w.heap.size (0,0,0):=((d5.set0 0).set1 0).set2 0
 refine bodyPost_ret (resT3 (b:=w.heap.size) (t:=(0,0,0)) rfl rfl d20.c) rfl ?_
 exact ⟨rfl,((G5.setCell (Nat.le_refl _) _).setCell (Nat.le_refl _) _).setCell (Nat.le_refl _) _⟩
theorem first_other (d:ByteArray) (w:World) (hs:d.size≤maxLen) (h:4≤d.size) (hd:Cd w) (h2:sizeV d≤d.size) (h3:8≤sizeV d) (h4:rightB (readV (d.extract 0 (sizeV d).toNat))=true) (h5:writeV (readV (d.extract 0 (sizeV d).toNat))≠d.extract 0 (sizeV d).toNat):Calls Tryz.prog 135 #[.string d] w (NopeF w 11):=by
 have h' : ¬ ((d.size:Int) < 4):=by omega
 obtain ⟨z0,z1⟩:=sizeV_range d
 have hsl:∀ w,(Instr.slice 9 (.string d) (some (.int .i64 2)) (some (.int .i64 4)) none).run Tryz.prog w=.ok (.string (d.extract 2 4)) w:=fun w=>slice_lh d 2 4 (by omega) (by omega) (by omega) w
 have hx:(d.extract 2 4).size≤maxLen:=by rw [ByteArray.size_extract];omega
 have HR:Hid (Calls Tryz.prog 45 #[.string (d.extract 2 4)] (tx w (0,0,0)) fun x w'=>x=.returned (.pointer (some ⟨w.heap.size + 1,0,none⟩))∧Rd w' (w.heap.size + 1) (d.extract 2 4) 0∧Below (w.heap.size + 1) (tx w (0,0,0)) w'∧w'.heap.size=w.heap.size + 2):=(show _ from by
  have:=rd_any (d.extract 2 4) (tx w (0,0,0))
  rw [show (tx w (0,0,0)).heap.size=w.heap.size + 1 by simp] at this
  exact this)
 have HN:Hid (∀ w1 b,Rd w1 b (d.extract 2 4) 0→Calls Tryz.prog 46 #[.pointer (some ⟨b,0,none⟩),.int .i64 2] w1 fun x w'=>x=.returned (.int .u64 (sizeV d))∧Only b w1 w'):=(show ∀ w1 b,_ from fun w1 b r=>by
  refine (numR b ⟨d.extract 2 4,0⟩ 2 w1 hx r).mono ?_
  rintro x w' ⟨rfl,_,o⟩
  exact ⟨rfl,o⟩)
 have h2' : ¬ ((d.size:Int) < sizeV d):=by omega
 have h3' : ¬ (sizeV d < 8):=by omega
 have hsl2:∀ w,(Instr.slice 9 (.string d) none (some (.int .i64 (sizeV d))) none).run Tryz.prog w=.ok (.string (d.extract 0 (sizeV d).toNat)) w:=fun w=>slice_h d _ z0 h2 w
 have hy:(d.extract 0 (sizeV d).toNat).size≤maxLen:=by rw [ByteArray.size_extract];omega
 have HA:Hid (∀ w,Cd w→Calls Tryz.prog 151 #[.string (d.extract 0 (sizeV d).toNat)] w fun e w'=>e=.returned (tV (readV (d.extract 0 (sizeV d).toNat)))∧Below w.heap.size w w'):=(show ∀ w,_ from fun w hd=>readA_any _ w hy hd)
 have HG:Hid (∀ w,Cd w→Calls Tryz.prog 140 #[tV (readV (d.extract 0 (sizeV d).toNat))] w fun e w'=>e=.returned (.bool true)∧Below w.heap.size w w'):=(show ∀ w,_ from fun w hd=>by
  have:=right_any (readV (d.extract 0 (sizeV d).toNat)) w hd
  rwa [h4] at this)
 have HD:Hid (Cd w):=hd
 have HW:Hid (∀ w,Cd w→Calls Tryz.prog 121 #[tV (readV (d.extract 0 (sizeV d).toNat))] w fun e w'=>e=.returned (.string (writeV (readV (d.extract 0 (sizeV d).toNat))))∧Below w.heap.size w w'):=(show ∀ w,_ from fun w hd=>write_any _ w hd h4)
 clear hy h2 h3 h4 hd
 unfold NopeF
 generalize d.extract 0 (sizeV d).toNat=Y at *
 generalize readV Y=T at *
 generalize writeV T=E at *
 have hq:(!E.toList == Y.toList)=true:=by
  rw [Bool.not_eq_true',beq_eq_false_iff_ne]
  intro hh
  apply h5
  apply ba_ext
  rw [← ByteArray.toList_eq,← ByteArray.toList_eq]
  exact hh
 clear h5
 clear hs h hx
 generalize d.extract 2 4=X at *
 generalize sizeV d=Z at *
 go_enter Tryz.func135,Tryz.ntmps135
 go_wp2_with fail
 refine HR.out.mono ?_
 rintro x w1 ⟨rfl,r1,g1,s1⟩
 have d1:W3 w1 w.heap.size (0,0,0):=(W3.new w (0,0,0)).block (g1.block _ (by omega))
 have G1:Below w.heap.size w w1:=(tx_below w (0,0,0)).trans (g1.mono (by omega))
 clear g1
 go_wp2_with fail
 refine (HN.out _ _ r1).mono ?_
 rintro x w2 ⟨rfl,o2⟩
 have d2:=d1.block (o2.block _ (by omega))
 have G2:Below w.heap.size w w2:=o2.below (by omega) G1
 have s2:w2.heap.size=w.heap.size + 2:=by rw [o2.size,s1]
 clear o2 d1 G1 r1 s1
 go_wp2_with fail
 refine (HA.out _ (HD.out.below G2)).mono ?_
 rintro x w3 ⟨rfl,g3⟩
 have d3:=d2.block (g3.block _ (by omega))
 have G3:Below w.heap.size w w3:=btr G2 g3 (by omega)
 have s3:w.heap.size + 2≤w3.heap.size:=by have:=g3.size;omega
 clear g3 d2 G2 s2
 have t4:=C3.new w3 T
 have d4:W3 (tx w3 T) w.heap.size (0,0,0):=d3.block ((tx_below w3 T).block _ (by omega))
 have G4:Below w.heap.size w (tx w3 T):=btr G3 (tx_below w3 T) (by omega)
 have e4:(tx w3 T).heap.size=w3.heap.size + 1:=by simp
 obtain ⟨W4,hW4⟩:∃ W4,tx w3 T=W4:=⟨_,rfl⟩
 rw [hW4] at t4 d4 G4 e4
 have HW4:Hid (tx w3 T=W4):=hW4
 obtain ⟨B,hB⟩:∃ B,w3.heap.size=B:=⟨_,rfl⟩
 have qa:∀ n:GrT W4,C3 n.w w3.heap.size 0 T:=fun n=>t4.below (by omega) n.h
 have HDn:Hid (∀ n:GrT W4,Cd n.w):=(show ∀ n:GrT W4,Cd n.w from fun n=>(HD.out.below G4).below n.h)
 clear d3 G3 hW4 hB
 go_wp2_with fail
 have hW:=HW4.out
 simp only [tx,tC] at hW
 rw [hW]
 clear hW
 refine wp_region_grow (by kernel_rfl) (by kernel_rfl) ?_
 repeat (go_big_quiet_step ((first | (go_at_call 140;exact quiet_gr (HG.out _ (HDn.out _))) | (go_at_call 121;exact quiet_gr (HW.out _ (HDn.out _))))))
 refine wpQuiet_nil ?_
 rintro w5 hw'
 have g5:=gr_elim hw'
 clear hw' qa
 have d5:=d4.block (g5.block _ (by omega))
 have t5:=t4.below (by omega) g5
 have G5:Below w.heap.size w w5:=btr G4 g5 (by omega)
 clear g5 d4 t4 G4 HW4
 have d5':=d5
 obtain ⟨⟨e0,e1,e2⟩,ef⟩:=d5'
 obtain ⟨c0,c1,c2⟩:=t5
 go_wp2_with fail
 have d20:W3 _ w.heap.size (0,0,0):=((d5.set0 0).set1 0).set2 0
 refine bodyPost_ret (resT3 (b:=w.heap.size) (t:=(0,0,0)) rfl rfl d20.c) rfl ?_
 exact ⟨rfl,((G5.setCell (Nat.le_refl _) _).setCell (Nat.le_refl _) _).setCell (Nat.le_refl _) _⟩
theorem first_good (d:ByteArray) (w:World) (hs:d.size≤maxLen) (h:4≤d.size) (hd:Cd w) (h2:sizeV d≤d.size) (h3:8≤sizeV d) (h4:rightB (readV (d.extract 0 (sizeV d).toNat))=true) (h5:writeV (readV (d.extract 0 (sizeV d).toNat))=d.extract 0 (sizeV d).toNat):Calls Tryz.prog 135 #[.string d] w (fun e w'=>e=.returned (.tuple #[tV (readV (d.extract 0 (sizeV d).toNat)),.int .i64 (sizeV d),.int .i64 0])∧Below w.heap.size w w'):=by
 have h' : ¬ ((d.size:Int) < 4):=by omega
 obtain ⟨z0,z1⟩:=sizeV_range d
 have hsl:∀ w,(Instr.slice 9 (.string d) (some (.int .i64 2)) (some (.int .i64 4)) none).run Tryz.prog w=.ok (.string (d.extract 2 4)) w:=fun w=>slice_lh d 2 4 (by omega) (by omega) (by omega) w
 have hx:(d.extract 2 4).size≤maxLen:=by rw [ByteArray.size_extract];omega
 have HR:Hid (Calls Tryz.prog 45 #[.string (d.extract 2 4)] (tx w (0,0,0)) fun x w'=>x=.returned (.pointer (some ⟨w.heap.size + 1,0,none⟩))∧Rd w' (w.heap.size + 1) (d.extract 2 4) 0∧Below (w.heap.size + 1) (tx w (0,0,0)) w'∧w'.heap.size=w.heap.size + 2):=(show _ from by
  have:=rd_any (d.extract 2 4) (tx w (0,0,0))
  rw [show (tx w (0,0,0)).heap.size=w.heap.size + 1 by simp] at this
  exact this)
 have HN:Hid (∀ w1 b,Rd w1 b (d.extract 2 4) 0→Calls Tryz.prog 46 #[.pointer (some ⟨b,0,none⟩),.int .i64 2] w1 fun x w'=>x=.returned (.int .u64 (sizeV d))∧Only b w1 w'):=(show ∀ w1 b,_ from fun w1 b r=>by
  refine (numR b ⟨d.extract 2 4,0⟩ 2 w1 hx r).mono ?_
  rintro x w' ⟨rfl,_,o⟩
  exact ⟨rfl,o⟩)
 have h2' : ¬ ((d.size:Int) < sizeV d):=by omega
 have h3' : ¬ (sizeV d < 8):=by omega
 have hsl2:∀ w,(Instr.slice 9 (.string d) none (some (.int .i64 (sizeV d))) none).run Tryz.prog w=.ok (.string (d.extract 0 (sizeV d).toNat)) w:=fun w=>slice_h d _ z0 h2 w
 have hy:(d.extract 0 (sizeV d).toNat).size≤maxLen:=by rw [ByteArray.size_extract];omega
 have HA:Hid (∀ w,Cd w→Calls Tryz.prog 151 #[.string (d.extract 0 (sizeV d).toNat)] w fun e w'=>e=.returned (tV (readV (d.extract 0 (sizeV d).toNat)))∧Below w.heap.size w w'):=(show ∀ w,_ from fun w hd=>readA_any _ w hy hd)
 have HG:Hid (∀ w,Cd w→Calls Tryz.prog 140 #[tV (readV (d.extract 0 (sizeV d).toNat))] w fun e w'=>e=.returned (.bool true)∧Below w.heap.size w w'):=(show ∀ w,_ from fun w hd=>by
  have:=right_any (readV (d.extract 0 (sizeV d).toNat)) w hd
  rwa [h4] at this)
 have HD:Hid (Cd w):=hd
 have HW:Hid (∀ w,Cd w→Calls Tryz.prog 121 #[tV (readV (d.extract 0 (sizeV d).toNat))] w fun e w'=>e=.returned (.string (d.extract 0 (sizeV d).toNat))∧Below w.heap.size w w'):=(show ∀ w,_ from fun w hd=>by
  have:=write_any _ w hd h4
  rwa [h5] at this)
 clear hy h2 h3 h4 h5 hd
 generalize d.extract 0 (sizeV d).toNat=Y at *
 generalize readV Y=T at *
 clear hs h hx
 generalize d.extract 2 4=X at *
 generalize sizeV d=Z at *
 go_enter Tryz.func135,Tryz.ntmps135
 go_wp2_with fail
 refine HR.out.mono ?_
 rintro x w1 ⟨rfl,r1,g1,s1⟩
 have d1:W3 w1 w.heap.size (0,0,0):=(W3.new w (0,0,0)).block (g1.block _ (by omega))
 have G1:Below w.heap.size w w1:=(tx_below w (0,0,0)).trans (g1.mono (by omega))
 clear g1
 go_wp2_with fail
 refine (HN.out _ _ r1).mono ?_
 rintro x w2 ⟨rfl,o2⟩
 have d2:=d1.block (o2.block _ (by omega))
 have G2:Below w.heap.size w w2:=o2.below (by omega) G1
 have s2:w2.heap.size=w.heap.size + 2:=by rw [o2.size,s1]
 clear o2 d1 G1 r1 s1
 go_wp2_with fail
 refine (HA.out _ (HD.out.below G2)).mono ?_
 rintro x w3 ⟨rfl,g3⟩
 have d3:=d2.block (g3.block _ (by omega))
 have G3:Below w.heap.size w w3:=btr G2 g3 (by omega)
 have s3:w.heap.size + 2≤w3.heap.size:=by have:=g3.size;omega
 clear g3 d2 G2 s2
 have t4:=C3.new w3 T
 have d4:W3 (tx w3 T) w.heap.size (0,0,0):=d3.block ((tx_below w3 T).block _ (by omega))
 have G4:Below w.heap.size w (tx w3 T):=btr G3 (tx_below w3 T) (by omega)
 have e4:(tx w3 T).heap.size=w3.heap.size + 1:=by simp
 obtain ⟨W4,hW4⟩:∃ W4,tx w3 T=W4:=⟨_,rfl⟩
 rw [hW4] at t4 d4 G4 e4
 have HW4:Hid (tx w3 T=W4):=hW4
 obtain ⟨B,hB⟩:∃ B,w3.heap.size=B:=⟨_,rfl⟩
 have qa:∀ n:GrT W4,C3 n.w w3.heap.size 0 T:=fun n=>t4.below (by omega) n.h
 have HDn:Hid (∀ n:GrT W4,Cd n.w):=(show ∀ n:GrT W4,Cd n.w from fun n=>(HD.out.below G4).below n.h)
 clear d3 G3 hW4 hB
 go_wp2_with fail
 have hW:=HW4.out
 simp only [tx,tC] at hW
 rw [hW]
 clear hW
 refine wp_region_grow (by kernel_rfl) (by kernel_rfl) ?_
 repeat (go_big_quiet_step ((first | (go_at_call 140;exact quiet_gr (HG.out _ (HDn.out _))) | (go_at_call 121;exact quiet_gr (HW.out _ (HDn.out _))))))
 refine wpQuiet_nil ?_
 rintro w5 hw'
 have g5:=gr_elim hw'
 clear hw' qa
 have d5:=d4.block (g5.block _ (by omega))
 have t5:=t4.below (by omega) g5
 have G5:Below w.heap.size w w5:=btr G4 g5 (by omega)
 clear g5 d4 t4 G4 HW4
 have d5':=d5
 obtain ⟨⟨e0,e1,e2⟩,ef⟩:=d5'
 obtain ⟨c0,c1,c2⟩:=t5
 go_wp2_with fail
 have d20:W3 _ w.heap.size T:=((d5.set0 T.1).set1 T.2.1).set2 T.2.2
 refine bodyPost_ret (resT3 (b:=w.heap.size) (t:=T) rfl rfl d20.c) rfl ?_
 exact ⟨rfl,((G5.setCell (Nat.le_refl _) _).setCell (Nat.le_refl _) _).setCell (Nat.le_refl _) _⟩
theorem first_any (d:ByteArray) (w:World) (hs:d.size≤maxLen) (hd:Cd w) :
    Calls Tryz.prog 135 #[.string d] w fun e w'=>e=.returned (.tuple #[tV (firstA d),.int .i64 (firstZ d),.int .i64 (firstE d)])∧Below w.heap.size w w':=by
  have bad:∀ k:Int,k≠0→firstE d=k→Calls Tryz.prog 135 #[.string d] w (NopeF w k)→Calls Tryz.prog 135 #[.string d] w fun e w'=>e=.returned (.tuple #[tV (firstA d),.int .i64 (firstZ d),.int .i64 (firstE d)])∧Below w.heap.size w w':=fun k hk he hc=>by
    have n0 : ¬ (firstE d=0):=by rw [he];exact hk
    unfold firstA firstZ
    rw [if_neg n0,if_neg n0,he]
    exact hc
  by_cases h4:d.size < 4
  · exact bad 10 (by decide) (by unfold firstE;rw [if_pos h4]) (first_short d w h4)
  · by_cases h5:(d.size:Int) < sizeV d
    · exact bad 10 (by decide) (by unfold firstE;rw [if_neg h4,if_pos h5]) (first_end d w hs (by omega) h5)
    · by_cases h6:sizeV d < 8
      · exact bad 11 (by decide) (by unfold firstE;rw [if_neg h4,if_neg h5,if_pos h6]) (first_low d w hs (by omega) (by omega) h6)
      · cases h7:rightB (readV (d.extract 0 (sizeV d).toNat))
        · exact bad 11 (by decide) (by unfold firstE;rw [if_neg h4,if_neg h5,if_neg h6,if_neg (by simp [h7])]) (first_wrong d w hs (by omega) hd (by omega) (by omega) h7)
        · by_cases h8:writeV (readV (d.extract 0 (sizeV d).toNat))=d.extract 0 (sizeV d).toNat
          · have he:firstE d=0:=by unfold firstE;rw [if_neg h4,if_neg h5,if_neg h6,if_pos ⟨h7,h8⟩]
            unfold firstA firstZ
            rw [if_pos he,if_pos he,he]
            exact first_good d w hs (by omega) hd (by omega) (by omega) h7 h8
          · exact bad 11 (by decide) (by unfold firstE;rw [if_neg h4,if_neg h5,if_neg h6,if_neg (fun h=>h8 h.2)]) (first_other d w hs (by omega) hd (by omega) (by omega) h7 h8)
def flat (l:List A):List Value:=l.flatMap fun t=>[.int .i64 t.1,.int .i64 t.2.1,.int .u64 t.2.2]
theorem flat_length:∀ l:List A,(flat l).length=l.length * 3
 | []=>rfl
 | t :: l=>by simp only [flat,List.flatMap_cons,List.length_append,List.length_cons,List.length_nil];have:=flat_length l;unfold flat at this;rw [this];omega
theorem flat_append (l m:List A):flat (l ++ m)=flat l ++ flat m:=by simp [flat]
theorem flat_at:∀ (l:List A) (i:Nat) (h:i < l.length),(flat l)[i * 3]? = some (.int .i64 l[i].1)∧(flat l)[i * 3 + 1]? = some (.int .i64 l[i].2.1)∧(flat l)[i * 3 + 2]? = some (.int .u64 l[i].2.2)
  | t :: l,0,_=>by simp [flat]
  | t :: l,i + 1,h=>by
    have ih:=flat_at l i (by simpa using h)
    unfold flat at ih ⊢
    rw [List.flatMap_cons,show (i + 1) * 3=i * 3 + 3 by omega]
    simpa using ih
theorem flat_cell (l:List A) (j:Nat) (u:Value) (h:(flat l)[j]? = some u):∃ i,∃ hi:i < l.length,(j=i * 3∧u=.int .i64 l[i].1)∨(j=i * 3 + 1∧u=.int .i64 l[i].2.1)∨(j=i * 3 + 2∧u=.int .u64 l[i].2.2):=by
 have hj:j < (flat l).length:=by
  rcases Nat.lt_or_ge j (flat l).length with h' | h'
  ·exact h'
  ·rw [List.getElem?_eq_none h'] at h;cases h
 rw [flat_length] at hj
 have hi:j / 3 < l.length:=by omega
 obtain ⟨x0,x1,x2⟩:=flat_at l (j / 3) hi
 refine ⟨j / 3,hi,?_⟩
 have:j % 3=0∨j % 3=1∨j % 3=2:=by omega
 rcases this with q | q | q
 ·have e:j=j / 3 * 3:=by omega
  refine .inl ⟨e,?_⟩
  rw [← e] at x0
  exact Option.some.inj (h.symm.trans x0)
 ·have e:j=j / 3 * 3 + 1:=by omega
  refine .inr (.inl ⟨e,?_⟩)
  rw [← e] at x1
  exact Option.some.inj (h.symm.trans x1)
 ·have e:j=j / 3 * 3 + 2:=by omega
  refine .inr (.inr ⟨e,?_⟩)
  rw [← e] at x2
  exact Option.some.inj (h.symm.trans x2)
theorem flat_one (l:List A):∀ u ∈ flat l,u.oneCell'=true:=by
 intro u hu
 unfold flat at hu
 rw [List.mem_flatMap] at hu
 obtain ⟨t,_,ht⟩:=hu
 simp at ht
 rcases ht with rfl | rfl | rfl <;> rfl
theorem infoA:(Tryz.prog.info? 106).map (fun i=>(i.zero,i.size,i.bytes))=some (some (.agg #[.int .i64 0,.int .i64 0,.int .u64 0]),3,24):=by kernel_rfl
theorem addP (g o j:Nat):(⟨g,o,none⟩:Addr).add j=⟨g,o + j,none⟩:=by unfold Addr.add;split <;> simp_all
theorem Ts.news {w:World} {g o:Nat} {l:List A} (h:∀ i (h:i < l.length),C3 w g (o + i * 3) l[i]):∀ j u,(flat l)[j]? = some u→w.cell? ((⟨g,o,none⟩:Addr).add j)=some u:=by
 intro j u hj
 obtain ⟨i,hi,hh⟩:=flat_cell l j u hj
 obtain ⟨c0,c1,c2⟩:=h i hi
 rw [addP]
 rcases hh with ⟨rfl,rfl⟩ | ⟨rfl,rfl⟩ | ⟨rfl,rfl⟩
 ·exact c0
 ·rw [← Nat.add_assoc];exact c1
 ·rw [← Nat.add_assoc];exact c2
theorem wpList_app {w:World} {ops:Array Oper} {rest:List Oper} {o:Oper} {a:Act} {Q:Exit→Act→World→Prop} (hgd:o.guard=none) (s x:Operand)
    (ho:o.op=.call { callee:=.builtin .append,args:=#[s,x],argTypes:=#[23,23] }) (base:Nat) (v:Value) (n:Nat) (xs:List Value) (hs:a.eval s=v) (hown:w.ownsRow base 106 3 v n xs)
    (ad:Option Addr) (cap:Nat) (l:List A) (m:Nat) (hm:m=l.length) (hx:a.eval x=.slice ad m cap) (hT:Ts w ad l) (hn:n + l.length≤1000) (hbase:base≤w.heap.size)
    (h:∀ v' w',w'.ownsRow base 106 3 v' (n + l.length) (xs ++ flat l)→w.grownBy w' v.ownBlock→wpList Tryz.prog ops Q rest (a.put o.dst v') w'):wpList Tryz.prog ops Q (o :: rest) a w:=by
  obtain ⟨i0,hi,hz0,hz1,hz2⟩:=info_parts infoA
  subst hm
  rcases hT with rfl | ⟨g,of,rfl,_,hc⟩
  · have src:Src Tryz.prog i0.size 23 (.slice ad 0 cap) 0 [] w:=by
      cases ad with
      | none=>exact Src.ofNil w Tryz.underlying23 cap
      | some q=>exact Src.ofSlice w Tryz.underlying23 q 0 cap [] (by simp) (fun j u hj=>by simp at hj) (fun u hu=>by simp at hu)
    rcases hown.2 with ⟨rfl,h0⟩ | ⟨g,c,cur,rfl,hbg,hhg,hnc,hcm,hcs,htk⟩
    · refine Lib.wpList_append_run w hgd s x 23 23 ho _ _ hs hx _ _ (run_append_nothing w 23 23 o.type 106 i0 Tryz.underlying23 hi none 0 0 (Nat.le_refl _) _ src) ?_
      refine h _ _ ?_ ⟨rfl,rfl,rfl,Nat.le_refl _,fun _ _ _=>rfl⟩
      simpa [flat] using hown
    · refine Lib.wpList_append_run w hgd s x 23 23 ho _ _ hs hx _ _ (run_append_nothing w 23 23 o.type 106 i0 Tryz.underlying23 hi (some ⟨g,0,none⟩) n c hnc _ src) ?_
      refine h _ _ ?_ ⟨rfl,rfl,rfl,Nat.le_refl _,fun _ _ _=>rfl⟩
      simpa [flat] using hown
  · exact wpList_append_own w hgd s x 23 ho base 106 i0 (.agg #[.int .i64 0,.int .i64 0,.int .u64 0]) 3 24 Tryz.underlying23 hi hz0 hz1 hz2 rfl (by decide) v n xs hs hown ⟨g,of,none⟩ l.length cap (flat l) hx (flat_length l) (Ts.news hc) (flat_one l) (by unfold maxLen;omega) (by omega) hbase (fun v' w' h1 h2 _=>h v' w' h1 h2)
theorem own_below {base e size:Nat} {w w':World} {v:Value} {n:Nat} {xs:List Value} (h:w.ownsRow base e size v n xs) (g:Below w.heap.size w w'):w'.ownsRow base e size v n xs :=
 h.kept (row:=none) ⟨g.os,g.tape,g.output,g.size,fun k hk _=>g.block k hk⟩ (by cases v.ownBlock <;> simp)
def TsF (base:Nat) (w:World) (a:Option Addr) (l:List A):Prop :=
 l=[]∨∃ g,a=some ⟨g,0,none⟩∧base≤g∧g < w.heap.size∧∀ i (h:i < l.length),C3 w g (i * 3) l[i]
theorem TsF.ts {base:Nat} {w:World} {a:Option Addr} {l:List A} (h:TsF base w a l):Ts w a l:=by
 rcases h with h | ⟨g,ha,_,hg,hc⟩
 ·exact .inl h
 ·exact .inr ⟨g,0,ha,hg,fun i hi=>by rw [Nat.zero_add];exact hc i hi⟩
theorem TsF.keep {base:Nat} {w w':World} {a:Option Addr} {l:List A} (h:TsF base w a l) (hz:w.heap.size≤w'.heap.size) (hb:∀ g,base≤g→g < w.heap.size→w'.heap[g]? = w.heap[g]?):TsF base w' a l:=by
 rcases h with h | ⟨g,ha,h0,hg,hc⟩
 ·exact .inl h
 ·exact .inr ⟨g,ha,h0,Nat.lt_of_lt_of_le hg hz,fun i hi=>(hc i hi).block (hb g h0 hg)⟩
theorem own_ts {base:Nat} {w:World} {v:Value} {l:List A} (h:w.ownsRow base 106 3 v l.length (flat l)):∃ a cap,v=.slice a l.length cap∧l.length≤cap∧TsF base w a l:=by
 rcases h.2 with ⟨rfl,h'⟩ | ⟨g,cap,cur,rfl,hbg,_,hnc,_⟩
 ·have hl:l=[]:=List.length_eq_zero_iff.1 h'
  subst hl
  exact ⟨none,0,rfl,Nat.le_refl _,.inl rfl⟩
 ·have hlt:=(h.lt g rfl).2
  have cs:∀ i (hi:i < l.length),C3 w g (i * 3) l[i]:=fun i hi=>by
   obtain ⟨x0,x1,x2⟩:=flat_at l i hi
   refine ⟨?_,?_,?_⟩
   ·rw [h.cellAt (i * 3) (by omega)];exact x0
   ·rw [h.cellAt (i * 3 + 1) (by omega)];exact x1
   ·rw [h.cellAt (i * 3 + 2) (by omega)];exact x2
  exact ⟨some ⟨g,0,none⟩,cap,rfl,hnc,.inr ⟨g,rfl,hbg,hlt,cs⟩⟩
theorem ts_new (w:World) (t:A):Ts (tx w t) (some ⟨w.heap.size,0,none⟩) [t]:=.inr ⟨w.heap.size,0,rfl,by simp,fun i hi=>by
 have:i=0:=by simp at hi;omega
 subst this
 exact C3.new w t⟩
def szOf:Value→Nat
 | .string s=>s.size
 | _=>0
theorem own_slice {w:World} {base:Nat} {v:Value} {n:Nat} {xs:List Value} (h:w.ownsRow base 106 3 v n xs):∃ ad cap,v=.slice ad n cap:=by
 rcases h.2 with ⟨hv,h'⟩ | ⟨g,cap',cur,hv,_⟩
 ·exact ⟨none,0,by rw [hv,h']⟩
 ·exact ⟨_,cap',hv⟩
theorem str_ne {a b:ByteArray} (h:a≠b):(!a.toList == b.toList)=true:=by
 rw [Bool.not_eq_true',beq_eq_false_iff_ne]
 intro hh
 apply h
 apply ba_ext
 rw [← ByteArray.toList_eq,← ByteArray.toList_eq]
 exact hh
theorem dec_any (d:ByteArray) (w:World) (hs:d.size≤maxLen) (hd:Cd w) :
    Calls Tryz.prog 113 #[.string d] w fun x w'=>∃ ad cap,x=.returned (.tuple #[.slice ad (decR d).1.length cap,.int .i64 (decR d).2])∧TsF w.heap.size w' ad (decR d).1∧Below w.heap.size w w':=by
  have HF:Hid (∀ (D:ByteArray) w,D.size≤maxLen→Cd w→Calls Tryz.prog 135 #[.string D] w fun e w'=>e=.returned (.tuple #[tV (firstA D),.int .i64 (firstZ D),.int .i64 (firstE D)])∧Below w.heap.size w w'):=(show ∀ (D:ByteArray) w,_ from fun D w hs hd=>first_any D w hs hd)
  have HD:Hid (Cd w):=hd
  obtain ⟨Z,hZ⟩:∃ Z,decGo d.size d []=Z:=⟨_,rfl⟩
  have HR:Hid (decR d=if Z.2=0∧32 < Z.1.length then ([],44) else Z):=(show _=_ by rw [← hZ];rfl)
  have HZ:Hid (decGo d.size d []=Z):=hZ
  clear hd hZ
  generalize decR d=O at *
  go_enter Tryz.func113,Tryz.ntmps113
  go_wp2_with fail
  go_loopw [0,4] (fun dv lv wr=>∃ (D:ByteArray) (acc:List A),dv=.string D∧D.size≤d.size∧decGo D.size D acc=Z∧acc.length≤33∧wr.ownsRow w.heap.size 106 3 lv acc.length (flat acc)∧Below w.heap.size w wr) (fun dv _ _=>szOf dv)
  case atStart=>exact ⟨d,[],rfl,Nat.le_refl _,HZ.out,by simp,World.ownsRow_nil _ _ _ _,Below.refl _ _⟩
  case round =>
    obtain ⟨D,acc,rfl,hle,hgo,hacc,hown,hbel⟩:=hrel
    have HG:Hid (decGo D.size D acc=Z):=hgo
    obtain ⟨ad,cap,rfl⟩:=own_slice hown
    have HO:Hid (wr.ownsRow w.heap.size 106 3 (.slice ad acc.length cap) acc.length (flat acc)):=hown
    clear hgo hown
    by_cases hD:D.size=0
    · have he:D.toList.isEmpty=true:=by
        rw [ByteArray.toList_eq]
        have:D.data.toList.length=0:=by simpa using hD
        rw [List.length_eq_zero_iff.1 this]
        rfl
      have HG2:Hid ((acc,(0:Int))=Z):=(show _=_ by rw [← HG.out,decGo_end acc hD])
      clear HG hD
      by_cases hb:32 < acc.length
      · have hb':(32:Int) < acc.length:=by omega
        have hO:Hid (O=([],44)):=(show _=_ by rw [HR.out,← HG2.out,if_pos ⟨rfl,hb⟩])
        clear HR HG2 hb
        go_wp2_with fail
        go_ret2
        rw [hO.out]
        exact ⟨none,0,rfl,.inl rfl,hbel⟩
      · have hb' : ¬ ((32:Int) < acc.length):=by omega
        have HT:Hid (TsF w.heap.size wr ad acc):=(show TsF w.heap.size wr ad acc by
          obtain ⟨a',c',hv,_,hT⟩:=own_ts HO.out
          cases hv
          exact hT)
        have hO:Hid (O=(acc,0)):=(show _=_ by rw [HR.out,← HG2.out,if_neg (fun h=>hb h.2)])
        clear HR HG2 hb
        go_wp2_with fail
        go_ret2
        rw [hO.out]
        first | exact ⟨ad,cap,rfl,HT.out,hbel⟩ | exact ⟨ad,⟨cap,rfl⟩,HT.out,hbel⟩
    · have he:D.toList.isEmpty=false:=by
        rw [ByteArray.toList_eq]
        have h1:D.data.toList.length≠0:=by simpa using hD
        cases h:D.data.toList with
        | nil=>rw [h] at h1;exact absurd rfl h1
        | cons _ _=>rfl
      have hbs:=hbel.size
      have hC:=HD.out.below hbel
      have HC:Hid (Cd wr):=hC
      clear hC
      go_wp2_with fail
      refine (HF.out D _ (by omega) HC.out).mono ?_
      rintro x w1 ⟨rfl,g1⟩
      have hb1:Below w.heap.size w w1:=btr hbel g1 (Nat.le_refl _)
      have ho1:=own_below HO.out g1
      have HO1:Hid (w1.ownsRow w.heap.size 106 3 (.slice ad acc.length cap) acc.length (flat acc)):=ho1
      have hs1:=g1.size
      clear g1 ho1 hbel HO HC
      by_cases hE:firstE D=0
      · have f:=first_of hE
        have hr:=first_rest hE
        have hz1:=f.len
        have hz2:=f.le
        rw [← f.z] at hz1 hz2
        have hsl:∀ w,(Instr.slice 9 (.string D) (some (.int .i64 (firstZ D))) none none).run Tryz.prog w=.ok (.string (D.extract (firstZ D).toNat D.size)) w:=fun w=>slice_l D _ (by omega) hz2 w
        have HS:Hid (decGo (D.extract (firstZ D).toNat D.size).size (D.extract (firstZ D).toNat D.size) (if acc.length≤32 then acc ++ [firstA D] else acc)=Z):=(show _=_ by rw [← HG.out,decGo_step acc hD hE])
        clear HG f
        rw [hE]
        clear hE
        generalize firstA D=X at *
        generalize D.extract (firstZ D).toNat D.size=D' at *
        generalize firstZ D=z at *
        have HR':Hid (D'.size < D.size):=hr
        clear hr
        by_cases hl:acc.length≤32
        · have hl':(acc.length:Int)≤32:=by omega
          rw [if_pos hl] at HS
          clear hl
          go_wp2_with (at_builtin;refine wpList_app rfl (.tmp 25) (.tmp 27) rfl w.heap.size _ _ _ rfl ((HO1.out.alloc _).alloc _) (some ⟨w1.heap.size + 1,0,none⟩) 1 [X] 1 rfl rfl ?c0 ?c1 ?c2 ?_)
          case c0=>have:=ts_new (tx w1 X) X;simpa using this
          case c1=>simp;omega
          case c2=>simp;omega
          · intro v' w4 hown' hgrow
            have R1:w4.ownsRow w.heap.size 106 3 v' (acc ++ [X]).length (flat (acc ++ [X])):=by
              simp only [List.length_append,flat_append]
              exact hown'
            have R2:Below w.heap.size w w4:=((hb1.alloc (by omega) _).alloc (by simp;omega) _).grown hgrow (by simp;omega) (fun q hq=>by have:=(HO1.out.lt q hq).1;omega)
            have R3:(acc ++ [X]).length≤33:=by simp;omega
            have HR1:Hid (w4.ownsRow w.heap.size 106 3 v' (acc ++ [X]).length (flat (acc ++ [X]))):=R1
            have HR3:Hid ((acc ++ [X]).length≤33):=R3
            clear hown' hgrow R1 R3
            go_wp2_with fail
            go_roundw
            case rel=>exact ⟨D',acc ++ [X],rfl,by have:=HR'.out;omega,HS.out,HR3.out,HR1.out,R2⟩
            case measure=>simpa [szOf] using HR'.out
        · have hl' : ¬ ((acc.length:Int)≤32):=by omega
          rw [if_neg hl] at HS
          clear hl
          go_wp2_with fail
          go_roundw
          case rel=>exact ⟨D',acc,rfl,by have:=HR'.out;omega,HS.out,hacc,HO1.out.alloc _,hb1.alloc (by omega) _⟩
          case measure=>simpa [szOf] using HR'.out
      · have hEb:(firstE D != 0)=true:=by simpa using hE
        have HZ2:Hid (([],firstE D)=Z):=(show _=_ by rw [← HG.out,decGo_stop acc hD hE])
        have hO:Hid (O=([],firstE D)):=(show _=_ by rw [HR.out,← HZ2.out,if_neg (fun h=>hE h.1)])
        clear HG HZ2 HR hE
        generalize firstE D=E at *
        go_wp2_with fail
        go_ret2
        rw [hO.out]
        exact ⟨none,0,rfl,.inl rfl,hb1.alloc (by omega) _⟩
end Go.Proofs.YtlcbfdiohcbpbaaGreatDoor

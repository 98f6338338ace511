import Derived.Test.YtlcbfdiohcbpbaaGreatDoorZB
import Derived.Test.YtlcbfdiohcbpbaaGreatDoorZD
namespace Go.Proofs.YtlcbfdiohcbpbaaGreatDoor.Mt
set_option maxHeartbeats 16000000
set_option maxRecDepth 20000
open Go.ChangeShapes Go.WideShapes Go.ChangeAt Go.RowKit
set_option linter.unusedSimpArgs false
theorem rnum_any (s:ByteArray) (w:World) (hs:s.size≤100000) :
    Calls Tryz.prog 55 #[.string s] w fun x w'=>x=.returned (.int .u64 (numOf s.data.toList))∧w'=w:=by
  go_enter Tryz.func55,Tryz.ntmps55
  go_wp2
  go_loop [3,4] (fun n i=>∃ k:Nat,k≤s.size∧i=.int .i64 k∧n=.int .u64 (numOf (s.data.toList.take k))) (fun _ i=>s.size - (intOf i).toNat)
  case atStart=>exact ⟨0,Nat.zero_le _,rfl,rfl⟩
  case round =>
    obtain ⟨k,hk,rfl,rfl⟩:=hrel
    by_cases hlt:k < s.size
    · have HS:Hid (numOf (s.data.toList.take (k + 1))=stepN (numOf (s.data.toList.take k)) s[k]):=numOf_take s k hlt
      go_wp2
      go_round
      case rel=>exact ⟨k + 1,by omega,by go_num,by rw [HS.out];rfl⟩
      case measure=>simp [intOf];omega
    · go_wp2
      go_ret
      exact ⟨ret_int (by rw [List.take_of_length_le (by simp;omega)]),rfl⟩
def tb2:List (Int × Int):=[(1,0),(2,2),(3,6),(4,5),(5,11),(6,12),(7,10),(8,13),(9,14)]
def nameGo:List (Int × Int)→Int→Int
 | [],_=>0
 | p :: r,c=>if c=p.2∨8≤p.1∧c=p.2 + 2 then p.1 else nameGo r c
theorem name_field (c:Int):nameGo tb2 c=fieldV c:=by
 unfold fieldV tb tb2
 simp only [nameGo,fieldGo]
 by_cases h:0≤c∧c≤16
 ·have:c=0∨c=1∨c=2∨c=3∨c=4∨c=5∨c=6∨c=7∨c=8∨c=9∨c=10∨c=11∨c=12∨c=13∨c=14∨c=15∨c=16:=by omega
  rcases this with rfl | rfl | rfl | rfl | rfl | rfl | rfl | rfl | rfl | rfl | rfl | rfl | rfl | rfl | rfl | rfl | rfl <;> decide
 ·repeat (rw [if_neg (by omega)])
theorem rnamed_any (c:Int) (w:World) :
    Calls Tryz.prog 91 #[.int .i64 c] w fun e w'=>e=.returned (.int .i64 (fieldV c))∧Below w.heap.size w w':=by
  rw [← name_field]
  go_enter Tryz.func91,Tryz.ntmps91
  go_wp2_with fail
  go_loopw [3] (fun i wr=>∃ k:Int,1≤k∧k≤10∧i=.int .i64 k∧nameGo tb2 c=nameGo (tb2.drop (k - 1).toNat) c∧Below w.heap.size w wr) (fun i _=>10 - (intOf i).toNat)
  case atStart=>exact ⟨1,by omega,by omega,rfl,rfl,Below.refl _ _⟩
  case round =>
    obtain ⟨k,hk0,hk,rfl,hr,hbel⟩:=hrel
    have hcl:k=1∨k=2∨k=3∨k=4∨k=5∨k=6∨k=7∨k=8∨k=9∨k=10:=by omega
    rcases hcl with rfl | rfl | rfl | rfl | rfl | rfl | rfl | rfl | rfl | rfl
    · have hr':nameGo tb2 c=if c=0∨(8:Int)≤1∧c=0 + 2 then 1 else nameGo (tb2.drop 1) c:=hr
      cases hf:(c == 0)
      · have hne : ¬ c=0:=by simpa using hf
        have HR:Hid (nameGo tb2 c=nameGo (tb2.drop 1) c):=(show _=_ by rw [hr',if_neg (by omega)])
        clear hr hr' hne
        go_wp2_with fail
        go_roundw
        case rel=>exact ⟨2,by omega,by omega,by go_num,HR.out,hbel.alloc hbel.size _⟩
        case measure=>simp [intOf]
      · have hne:c=0:=by simpa using hf
        have HR:Hid (nameGo tb2 c=1):=(show _=_ by rw [hr',if_pos (by omega)])
        clear hr hr' hne
        go_wp2_with fail
        go_ret
        exact ⟨by rw [HR.out];rfl,hbel.alloc hbel.size _⟩
    · have hr':nameGo tb2 c=if c=2∨(8:Int)≤2∧c=2 + 2 then 2 else nameGo (tb2.drop 2) c:=hr
      cases hf:(c == 2)
      · have hne : ¬ c=2:=by simpa using hf
        have HR:Hid (nameGo tb2 c=nameGo (tb2.drop 2) c):=(show _=_ by rw [hr',if_neg (by omega)])
        clear hr hr' hne
        go_wp2_with fail
        go_roundw
        case rel=>exact ⟨3,by omega,by omega,by go_num,HR.out,hbel.alloc hbel.size _⟩
        case measure=>simp [intOf]
      · have hne:c=2:=by simpa using hf
        have HR:Hid (nameGo tb2 c=2):=(show _=_ by rw [hr',if_pos (by omega)])
        clear hr hr' hne
        go_wp2_with fail
        go_ret
        exact ⟨by rw [HR.out];rfl,hbel.alloc hbel.size _⟩
    · have hr':nameGo tb2 c=if c=6∨(8:Int)≤3∧c=6 + 2 then 3 else nameGo (tb2.drop 3) c:=hr
      cases hf:(c == 6)
      · have hne : ¬ c=6:=by simpa using hf
        have HR:Hid (nameGo tb2 c=nameGo (tb2.drop 3) c):=(show _=_ by rw [hr',if_neg (by omega)])
        clear hr hr' hne
        go_wp2_with fail
        go_roundw
        case rel=>exact ⟨4,by omega,by omega,by go_num,HR.out,hbel.alloc hbel.size _⟩
        case measure=>simp [intOf]
      · have hne:c=6:=by simpa using hf
        have HR:Hid (nameGo tb2 c=3):=(show _=_ by rw [hr',if_pos (by omega)])
        clear hr hr' hne
        go_wp2_with fail
        go_ret
        exact ⟨by rw [HR.out];rfl,hbel.alloc hbel.size _⟩
    · have hr':nameGo tb2 c=if c=5∨(8:Int)≤4∧c=5 + 2 then 4 else nameGo (tb2.drop 4) c:=hr
      cases hf:(c == 5)
      · have hne : ¬ c=5:=by simpa using hf
        have HR:Hid (nameGo tb2 c=nameGo (tb2.drop 4) c):=(show _=_ by rw [hr',if_neg (by omega)])
        clear hr hr' hne
        go_wp2_with fail
        go_roundw
        case rel=>exact ⟨5,by omega,by omega,by go_num,HR.out,hbel.alloc hbel.size _⟩
        case measure=>simp [intOf]
      · have hne:c=5:=by simpa using hf
        have HR:Hid (nameGo tb2 c=4):=(show _=_ by rw [hr',if_pos (by omega)])
        clear hr hr' hne
        go_wp2_with fail
        go_ret
        exact ⟨by rw [HR.out];rfl,hbel.alloc hbel.size _⟩
    · have hr':nameGo tb2 c=if c=11∨(8:Int)≤5∧c=11 + 2 then 5 else nameGo (tb2.drop 5) c:=hr
      cases hf:(c == 11)
      · have hne : ¬ c=11:=by simpa using hf
        have HR:Hid (nameGo tb2 c=nameGo (tb2.drop 5) c):=(show _=_ by rw [hr',if_neg (by omega)])
        clear hr hr' hne
        go_wp2_with fail
        go_roundw
        case rel=>exact ⟨6,by omega,by omega,by go_num,HR.out,hbel.alloc hbel.size _⟩
        case measure=>simp [intOf]
      · have hne:c=11:=by simpa using hf
        have HR:Hid (nameGo tb2 c=5):=(show _=_ by rw [hr',if_pos (by omega)])
        clear hr hr' hne
        go_wp2_with fail
        go_ret
        exact ⟨by rw [HR.out];rfl,hbel.alloc hbel.size _⟩
    · have hr':nameGo tb2 c=if c=12∨(8:Int)≤6∧c=12 + 2 then 6 else nameGo (tb2.drop 6) c:=hr
      cases hf:(c == 12)
      · have hne : ¬ c=12:=by simpa using hf
        have HR:Hid (nameGo tb2 c=nameGo (tb2.drop 6) c):=(show _=_ by rw [hr',if_neg (by omega)])
        clear hr hr' hne
        go_wp2_with fail
        go_roundw
        case rel=>exact ⟨7,by omega,by omega,by go_num,HR.out,hbel.alloc hbel.size _⟩
        case measure=>simp [intOf]
      · have hne:c=12:=by simpa using hf
        have HR:Hid (nameGo tb2 c=6):=(show _=_ by rw [hr',if_pos (by omega)])
        clear hr hr' hne
        go_wp2_with fail
        go_ret
        exact ⟨by rw [HR.out];rfl,hbel.alloc hbel.size _⟩
    · have hr':nameGo tb2 c=if c=10∨(8:Int)≤7∧c=10 + 2 then 7 else nameGo (tb2.drop 7) c:=hr
      cases hf:(c == 10)
      · have hne : ¬ c=10:=by simpa using hf
        have HR:Hid (nameGo tb2 c=nameGo (tb2.drop 7) c):=(show _=_ by rw [hr',if_neg (by omega)])
        clear hr hr' hne
        go_wp2_with fail
        go_roundw
        case rel=>exact ⟨8,by omega,by omega,by go_num,HR.out,hbel.alloc hbel.size _⟩
        case measure=>simp [intOf]
      · have hne:c=10:=by simpa using hf
        have HR:Hid (nameGo tb2 c=7):=(show _=_ by rw [hr',if_pos (by omega)])
        clear hr hr' hne
        go_wp2_with fail
        go_ret
        exact ⟨by rw [HR.out];rfl,hbel.alloc hbel.size _⟩
    · have hr':nameGo tb2 c=if c=13∨(8:Int)≤8∧c=13 + 2 then 8 else nameGo (tb2.drop 8) c:=hr
      cases hf:(c == 13)
      · have hne : ¬ c=13:=by simpa using hf
        cases hf2:(c == 15)
        · have hne2 : ¬ c=15:=by simpa using hf2
          have HR:Hid (nameGo tb2 c=nameGo (tb2.drop 8) c):=(show _=_ by rw [hr',if_neg (by omega)])
          clear hr hr' hne hne2
          go_wp2_with fail
          go_roundw
          case rel=>exact ⟨9,by omega,by omega,by go_num,HR.out,hbel.alloc hbel.size _⟩
          case measure=>simp [intOf]
        · have hne2:c=15:=by simpa using hf2
          have HR:Hid (nameGo tb2 c=8):=(show _=_ by rw [hr',if_pos (by omega)])
          clear hr hr' hne hne2
          go_wp2_with fail
          go_ret
          exact ⟨by rw [HR.out];rfl,hbel.alloc hbel.size _⟩
      · have hne:c=13:=by simpa using hf
        have HR:Hid (nameGo tb2 c=8):=(show _=_ by rw [hr',if_pos (by omega)])
        clear hr hr' hne
        go_wp2_with fail
        go_ret
        exact ⟨by rw [HR.out];rfl,hbel.alloc hbel.size _⟩
    · have hr':nameGo tb2 c=if c=14∨(8:Int)≤9∧c=14 + 2 then 9 else nameGo (tb2.drop 9) c:=hr
      cases hf:(c == 14)
      · have hne : ¬ c=14:=by simpa using hf
        cases hf2:(c == 16)
        · have hne2 : ¬ c=16:=by simpa using hf2
          have HR:Hid (nameGo tb2 c=nameGo (tb2.drop 9) c):=(show _=_ by rw [hr',if_neg (by omega)])
          clear hr hr' hne hne2
          go_wp2_with fail
          go_roundw
          case rel=>exact ⟨10,by omega,by omega,by go_num,HR.out,hbel.alloc hbel.size _⟩
          case measure=>simp [intOf]
        · have hne2:c=16:=by simpa using hf2
          have HR:Hid (nameGo tb2 c=9):=(show _=_ by rw [hr',if_pos (by omega)])
          clear hr hr' hne hne2
          go_wp2_with fail
          go_ret
          exact ⟨by rw [HR.out];rfl,hbel.alloc hbel.size _⟩
      · have hne:c=14:=by simpa using hf
        have HR:Hid (nameGo tb2 c=9):=(show _=_ by rw [hr',if_pos (by omega)])
        clear hr hr' hne
        go_wp2_with fail
        go_ret
        exact ⟨by rw [HR.out];rfl,hbel.alloc hbel.size _⟩
    · have e:nameGo tb2 c=0:=hr
      go_wp2_with fail
      go_ret
      exact ⟨by rw [e];rfl,hbel⟩
def byteAt (q:ByteArray) (i:Nat):Int:=((q.data.toList.getD i 0).toNat:Int)
theorem byteAt_lt (q:ByteArray) (i:Nat):0≤byteAt q i∧byteAt q i < 256:=by
 unfold byteAt
 have:=(q.data.toList.getD i 0).toNat_lt
 omega
def rdF (q:ByteArray):Int:=fieldV (byteAt q 2 / 2)
def rdN (q:ByteArray):Nat:=szV (rdF q)
def rdLong (q:ByteArray):Nat:=if byteAt q 2 % 2=1 then 2 * rdN q else rdN q
def rdBad (q:ByteArray):Bool:=(rdF q == 0) || (byteAt q 3 != (rdLong q:Int)) || decide (q.size < 4 + rdLong q)
def rdV (q:ByteArray):Int:=numOf (q.extract 4 (4 + rdN q)).data.toList
def rdM (q:ByteArray):Int:=numOf (q.extract (4 + rdN q) (4 + 2 * rdN q)).data.toList
def rdT (q:ByteArray):T:=(rdF q,rdV q,if byteAt q 2 % 2=1 then rdM q else grV (rdF q))
def rdRest (q:ByteArray):ByteArray:=q.extract (4 + rdLong q) q.size
def rdL:Nat→List T→ByteArray→Option (List T)
 | 0,l,_=>some l
 | n + 1,l,q=>if 4≤q.size then (if rdBad q=true then none else rdL n (l ++ [rdT q]) (rdRest q)) else some l
theorem rdL_short (n:Nat) (l:List T) (q:ByteArray) (h : ¬ 4≤q.size):rdL n l q=some l:=by
 cases n with
 | zero=>rfl
 | succ n=>rw [rdL,if_neg h]
theorem rdL_bad (n:Nat) (l:List T) (q:ByteArray) (h:4≤q.size) (hb:rdBad q=true):rdL (n + 1) l q=none:=by rw [rdL,if_pos h,if_pos hb]
theorem rdL_good (n:Nat) (l:List T) (q:ByteArray) (h:4≤q.size) (hb:rdBad q=false):rdL (n + 1) l q=rdL n (l ++ [rdT q]) (rdRest q):=by rw [rdL,if_pos h,hb];rfl
theorem rdT_w (q:ByteArray):TW (rdT q):=by
 have hz:=szV_le (rdF q)
 have hn:rdN q≤8:=hz
 have p8:∀ x:ByteArray,x.size≤8→0≤numOf x.data.toList∧numOf x.data.toList < 18446744073709551616:=fun x hx=>by
  have hl:x.data.toList.length≤8:=by simpa using hx
  have h:=numOf_lt x.data.toList hl
  have h2:=Nat.pow_le_pow_right (show 0 < 256 by decide) hl
  have h3:=Int.ofNat_le.mpr h2
  rw [Int.natCast_pow,Int.natCast_pow] at h3
  exact ⟨h.1,Int.lt_of_lt_of_le h.2 h3⟩
 have hv:=p8 (q.extract 4 (4 + rdN q)) (by rw [ByteArray.size_extract];omega)
 have hm:=p8 (q.extract (4 + rdN q) (4 + 2 * rdN q)) (by rw [ByteArray.size_extract];omega)
 have hg:=grV_lt (rdF q)
 refine ⟨hv.1,hv.2,?_,?_⟩
 ·unfold rdT;simp only;split
  ·exact hm.1
  ·exact hg.1
 ·unfold rdT;simp only;split
  ·exact hm.2
  ·exact hg.2
theorem ext_shift (A X:ByteArray) (i j:Nat):(A ++ X).extract (A.size + i) (A.size + j)=X.extract i j:=by
 apply ba_ext
 have e1:A.size=A.data.toList.length:=by simp
 simp only [ByteArray.data_extract,Array.toList_extract,ByteArray.data_append]
 rw [List.extract_eq_take_drop,List.extract_eq_take_drop,e1,Array.toList_append,List.drop_append,List.drop_of_length_le (by omega),List.nil_append]
 congr 1
 ·omega
 ·congr 1;omega
theorem rd_trip {t:T} {l:List T} (h:Fit t l) (hw:TW t) (B:ByteArray):4≤(encT t l ++ B).size∧rdBad (encT t l ++ B)=false∧rdT (encT t l ++ B)=t∧rdRest (encT t l ++ B)=B:=by
  have hfc:=field_code h
  obtain ⟨n0,n1,n2⟩:=fit_num h hw
  have hz1:=szV_pos h.fld
  have hz8:=szV_le t.1
  have hg:=gr_pow h.fld
  obtain ⟨k0,k1⟩:=codeV_lt t.1 l
  have hs16:=restT_size t
  have hh0:0≤headT t l∧headT t l≤255:=by unfold headT;split <;> omega
  have e:encT t l ++ B=(pb 32768 2 ++ pb (headT t l) 1 ++ pb (restT t).size 1) ++ (restT t ++ B):=by unfold encT;simp only [ap_assoc]
  have hsz:(pb 32768 2 ++ pb (headT t l) 1 ++ pb (restT t).size 1).size=4:=by rw [ByteArray.size_append,ByteArray.size_append,pb_size,pb_size,pb_size]
  have hsum:(encT t l ++ B).size=4 + ((restT t).size + B.size):=by rw [e,ByteArray.size_append,hsz,ByteArray.size_append]
  have lst:(pb 32768 2 ++ pb (headT t l) 1 ++ pb (restT t).size 1).data.toList=[128,0,UInt8.ofNat (headT t l).toNat,UInt8.ofNat (restT t).size]:=by
    have a1:(pb (headT t l) 1).data.toList=[UInt8.ofNat (headT t l).toNat]:=by
      rw [pb_list]
      simp only [pieces,List.nil_append,List.map_cons,List.map_nil]
      rw [Int.emod_eq_of_lt hh0.1 (by omega)]
    have a2:(pb (restT t).size 1).data.toList=[UInt8.ofNat (restT t).size]:=by
      rw [pb_list]
      simp only [pieces,List.nil_append,List.map_cons,List.map_nil]
      rw [Int.emod_eq_of_lt (by omega) (by omega),Int.toNat_natCast]
    have a3:(pb 32768 2).data.toList=[128,0]:=by decide +kernel
    simp only [ByteArray.data_append,Array.toList_append]
    rw [a1,a2,a3]
    rfl
  have b2:byteAt (encT t l ++ B) 2=headT t l:=by
    unfold byteAt
    rw [e,ByteArray.data_append,Array.toList_append,lst]
    simp only [List.cons_append,List.getD_cons_succ,List.getD_cons_zero]
    rw [UInt8.toNat_ofNat']
    omega
  have b3:byteAt (encT t l ++ B) 3=(restT t).size:=by
    unfold byteAt
    rw [e,ByteArray.data_append,Array.toList_append,lst]
    simp only [List.cons_append,List.getD_cons_succ,List.getD_cons_zero]
    rw [UInt8.toNat_ofNat']
    omega
  have ex:∀ a b:Nat,(encT t l ++ B).extract (4 + a) (4 + b)=(restT t ++ B).extract a b:=fun a b=>by
    have:=ext_shift (pb 32768 2 ++ pb (headT t l) 1 ++ pb (restT t).size 1) (restT t ++ B) a b
    rw [hsz] at this
    rw [e]
    exact this
  have hall:rdRest (encT t l ++ B)=(restT t ++ B).extract (rdLong (encT t l ++ B)) ((restT t).size + B.size):=by
    unfold rdRest
    rw [hsum,ex]
  cases hx:wholeB t with
  | true =>
    have hh:headT t l=2 * codeV t.1 l:=by unfold headT;rw [hx];rfl
    have ef:rdF (encT t l ++ B)=t.1:=by
      unfold rdF
      rw [b2,hh,show 2 * codeV t.1 l / 2=codeV t.1 l by omega,hfc]
    have en:rdN (encT t l ++ B)=szV t.1:=by unfold rdN;rw [ef]
    have hm:t.2.2=grV t.1:=by simpa [wholeB] using hx
    have er:restT t=pb t.2.1 (szV t.1):=by unfold restT;rw [hx];rfl
    have es:(restT t).size=szV t.1:=by rw [er,pb_size]
    have hne : ¬ byteAt (encT t l ++ B) 2 % 2=1:=by rw [b2,hh];omega
    have eL:rdLong (encT t l ++ B)=szV t.1:=by unfold rdLong;rw [if_neg hne,en]
    have ev:rdV (encT t l ++ B)=t.2.1:=by
      have x1:=ex 0 (szV t.1)
      unfold rdV
      rw [en,show (4:Nat)=4 + 0 from rfl,x1,er]
      have x2:=extract_left (pb t.2.1 (szV t.1)) B
      rw [pb_size] at x2
      rw [x2,pb_list]
      exact numOf_pieces _ _ hz8 hw.v0 (by omega)
    refine ⟨by omega,?_,?_,?_⟩
    · unfold rdBad
      rw [ef,b3,eL,hsum,es]
      have hf0:(t.1 == 0)=false:=by rw [beq_eq_false_iff_ne];have:=h.fld;omega
      rw [hf0,decide_eq_false (by omega)]
      simp
    · unfold rdT
      rw [if_neg hne,ef,ev,← hm]
    · rw [hall,eL,es,er]
      have x2:=extract_right (pb t.2.1 (szV t.1)) B
      rw [ByteArray.size_append,pb_size] at x2
      exact x2
  | false =>
    have hh:headT t l=2 * codeV t.1 l + 1:=by unfold headT;rw [hx];rfl
    have ef:rdF (encT t l ++ B)=t.1:=by
      unfold rdF
      rw [b2,hh,show (2 * codeV t.1 l + 1) / 2=codeV t.1 l by omega,hfc]
    have en:rdN (encT t l ++ B)=szV t.1:=by unfold rdN;rw [ef]
    have er:restT t=pb t.2.1 (szV t.1) ++ pb t.2.2 (szV t.1):=by unfold restT;rw [hx];rfl
    have es:(restT t).size=2 * szV t.1:=by rw [er,ByteArray.size_append,pb_size,pb_size];omega
    have hne:byteAt (encT t l ++ B) 2 % 2=1:=by rw [b2,hh];omega
    have eL:rdLong (encT t l ++ B)=2 * szV t.1:=by unfold rdLong;rw [if_pos hne,en]
    have ev:rdV (encT t l ++ B)=t.2.1:=by
      have x1:=ex 0 (szV t.1)
      unfold rdV
      rw [en,show (4:Nat)=4 + 0 from rfl,x1,er,ap_assoc]
      have x2:=extract_left (pb t.2.1 (szV t.1)) (pb t.2.2 (szV t.1) ++ B)
      rw [pb_size] at x2
      rw [x2,pb_list]
      exact numOf_pieces _ _ hz8 hw.v0 (by omega)
    have em:rdM (encT t l ++ B)=t.2.2:=by
      have x1:=ex (szV t.1) (2 * szV t.1)
      unfold rdM
      rw [en,x1,er,ap_assoc]
      have x2:=extract_mid (pb t.2.1 (szV t.1)) (pb t.2.2 (szV t.1)) B
      rw [pb_size,pb_size] at x2
      rw [show 2 * szV t.1=szV t.1 + szV t.1 by omega,x2,pb_list]
      exact numOf_pieces _ _ hz8 hw.m0 (by omega)
    refine ⟨by omega,?_,?_,?_⟩
    · unfold rdBad
      rw [ef,b3,eL,hsum,es]
      have hf0:(t.1 == 0)=false:=by rw [beq_eq_false_iff_ne];have:=h.fld;omega
      rw [hf0,decide_eq_false (by omega)]
      simp
    · unfold rdT
      rw [if_pos hne,ef,ev,em]
    · rw [hall,eL,es]
      have x2:=extract_right (restT t) B
      rw [ByteArray.size_append,es] at x2
      exact x2
theorem rd_body:∀ (r l:List T),rightGo l r=0→TWs r→l.length + r.length≤10→rdL (10 - l.length) l (bodyGo l r)=some (l ++ r)
  | [],l,_,_,_=>by
    rw [List.append_nil]
    exact rdL_short _ _ _ (by simp [bodyGo,ByteArray.size])
  | t :: r,l,hr,hw,hlen=>by
    obtain ⟨h1,h2⟩:=right_cons.1 hr
    obtain ⟨a,b,c,d⟩:=rd_trip (fit_of h1) (hw t (by simp)) (bodyGo (l ++ [t]) r)
    rw [List.length_cons] at hlen
    have e10:10 - l.length=(10 - (l ++ [t]).length) + 1:=by rw [List.length_append];simp;omega
    have e:bodyGo l (t :: r)=encT t l ++ bodyGo (l ++ [t]) r:=rfl
    rw [e10,e,rdL_good _ _ _ a b,c,d,rd_body r (l ++ [t]) h2 (fun u hu=>hw u (by simp [hu])) (by rw [List.length_append];simp;omega)]
    simp
def Fin (w:World) (Y:ByteArray) (p:Int) (R:Option (List T)) (e:Ending) (w':World):Prop :=
 (R=none→Nope w 11 e w')∧∀ L,R=some L→(¬ (rightE L=0∧encS L=Y)→Nope w 11 e w') ∧
  (rightE L=0∧encS L=Y→∃ a cap,e=.returned (.tuple #[.slice a L.length cap,.int .i64 p,.int .i64 0])∧L.length≤cap∧TsF w.heap.size w' a L∧Below w.heap.size w w')
theorem Fin.bad {w:World} {Y:ByteArray} {p:Int} {R:Option (List T)} {e:Ending} {w':World} (hR:R=none) (h:Nope w 11 e w'):Fin w Y p R e w' :=
 ⟨fun _=>h,fun L hL=>by rw [hR] at hL;cases hL⟩
theorem Fin.no {w:World} {Y:ByteArray} {p:Int} {R:Option (List T)} {L:List T} {e:Ending} {w':World} (hR:R=some L) (hn : ¬ (rightE L=0∧encS L=Y)) (h:Nope w 11 e w'):Fin w Y p R e w' :=
 ⟨fun _=>h,fun L' hL=>by rw [hR] at hL;cases hL;exact ⟨fun _=>h,fun hy=>absurd hy hn⟩⟩
theorem Fin.yes {w:World} {Y:ByteArray} {p:Int} {R:Option (List T)} {L:List T} {e:Ending} {w':World} (hR:R=some L) (hy:rightE L=0∧encS L=Y) (h:∃ a cap,e=.returned (.tuple #[.slice a L.length cap,.int .i64 p,.int .i64 0])∧L.length≤cap∧TsF w.heap.size w' a L∧Below w.heap.size w w'):Fin w Y p R e w' :=
 ⟨fun hN=>absurd (hR.symm.trans hN) (by simp),fun L' hL=>by rw [hR] at hL;cases hL;exact ⟨fun hn=>absurd hy hn,fun _=>h⟩⟩
theorem idxS (q:ByteArray) (i:Nat) (h:i < q.size) (w:World):(Instr.index 9 (.string q) (.int .i64 i)).run Tryz.prog w=.ok (.int .u8 (byteAt q i)) w:=by
 have hl:i < q.data.toList.length:=by simpa using h
 have e:byteAt q i=((q[i]).toNat:Int):=by
  unfold byteAt
  rw [List.getD_eq_getElem?_getD,List.getElem?_eq_getElem hl]
  rfl
 rw [e]
 have h0:(0:Int)≤(i:Int):=by omega
 simp [go_sem,run_index_string,Tryz.underlying9,h]
theorem slice_l (s:ByteArray) (j:Int) (h0:0≤j) (h2:j≤s.size) (w:World):(Instr.slice 9 (.string s) (some (.int .i64 j)) none none).run Tryz.prog w=.ok (.string (s.extract j.toNat s.size)) w :=
 by rw [run_slice_string_l (ht:=Tryz.underlying9) (h0:=h0) (h1:=h2)]
theorem ts_own {w:World} {base:Nat} {a:Option Addr} {l:List T} {cap:Nat} (h:w.ownsRow base 131 3 (.slice a l.length cap) l.length (flat l)):Ts w a l:=by
 rcases h.2 with ⟨_,h'⟩ | ⟨g,cap',cur,hv,_⟩
 ·exact .inl (List.length_eq_zero_iff.1 h')
 ·simp only [Value.slice.injEq] at hv
  obtain ⟨rfl,_,rfl⟩:=hv
  have hlt2:=(h.lt g rfl).2
  refine .inr ⟨g,0,rfl,hlt2,fun i hi => ?_⟩
  obtain ⟨x0,x1,x2⟩:=flat_at l i hi
  refine ⟨?_,?_,?_⟩
  ·rw [show 0 + i * 3=i * 3 by omega,h.cellAt (i * 3) (by omega)];exact x0
  ·rw [show 0 + i * 3 + 1=i * 3 + 1 by omega,h.cellAt (i * 3 + 1) (by omega)];exact x1
  ·rw [show 0 + i * 3 + 2=i * 3 + 2 by omega,h.cellAt (i * 3 + 2) (by omega)];exact x2
theorem own_slice {w:World} {base:Nat} {e:TypeId} {size:Nat} {v:Value} {n:Nat} {xs:List Value} (h:w.ownsRow base e size v n xs):∃ a cap,v=.slice a n cap:=by
 rcases h.2 with ⟨rfl,h'⟩ | ⟨g,cap,cur,rfl,_⟩
 ·exact ⟨none,0,by rw [h']⟩
 ·exact ⟨_,cap,rfl⟩
theorem below_grown {a b:World} (g:Below a.heap.size a b):a.grownBy b none:=⟨g.os,g.tape,g.output,g.size,fun k hk _=>g.block k hk⟩
theorem owns_below {a b:World} {base:Nat} {e:TypeId} {size:Nat} {v:Value} {n:Nat} {xs:List Value} (h:a.ownsRow base e size v n xs) (g:Below a.heap.size a b):b.ownsRow base e size v n xs :=
 h.kept (below_grown g) (by cases v.ownBlock <;> simp)
theorem num_raw (B C:ByteArray) (h:B.size=2):(⟨B ++ C,0⟩:RS).num 2=numOf B.data.toList:=by
 have hle:(2:Int)≤((B ++ C).size:Int):=by rw [ByteArray.size_append];omega
 have hs:szB 2=true:=by decide
 have e:(B ++ C).extract 0 2=B:=by
  have:=extract_left B C
  rwa [h] at this
 unfold RS.num numV takeV
 simp only [hs,hle,and_self,if_true]
 rw [show Int.toNat 2=2 from rfl,e]
theorem split3 (s:ByteArray) (h:4≤s.size):s=s.extract 0 2 ++ (s.extract 2 4 ++ s.extract 4 s.size):=by
  apply ba_ext
  simp only [ByteArray.data_append,ByteArray.data_extract,Array.toList_append,Array.toList_extract]
  rw [List.extract_eq_take_drop,List.extract_eq_take_drop,List.extract_eq_take_drop]
  have hl:s.data.toList.length=s.size:=by simp
  generalize s.data.toList=l at *
  match l,hl with
  | a :: b :: c :: d :: r,hl =>
    simp
    rw [List.take_of_length_le (by simp at hl;omega)]
  | [],hl=>simp at hl;omega
  | [_],hl=>simp at hl;omega
  | [_,_],hl=>simp at hl;omega
  | [_,_,_],hl=>simp at hl;omega
theorem said_num (s:ByteArray) (h:4≤s.size):numOf (s.extract 2 4).data.toList=saidV s:=by
 have e:=split3 s h
 have h0:(s.extract 0 2).size=2:=by rw [ByteArray.size_extract];omega
 have h2:(s.extract 2 4).size=2:=by rw [ByteArray.size_extract];omega
 unfold saidV
 have e1:((⟨s,0⟩:RS).skip 2)=⟨s.extract 2 4 ++ s.extract 4 s.size,0⟩:=by
  have:=skip_ap (s.extract 0 2) (s.extract 2 4 ++ s.extract 4 s.size) 2 h0 (by decide)
  rw [← e] at this
  exact this
 rw [e1,num_raw _ _ h2]
theorem rdec_main (s:ByteArray) (w:World) (hs:s.size≤100000) (h:4≤s.size) (h2:padV (saidV s)≤s.size) (h3:4≤saidV s) :
    Calls Tryz.prog 59 #[.string s] w (Fin w (s.extract 0 (padV (saidV s)).toNat) (padV (saidV s)) (rdL 10 [] (s.extract 4 (saidV s).toNat))):=by
  have hpz:=padV_ge (saidV s)
  obtain ⟨z0,z1⟩:=saidV_lt s
  have HN0:Hid (∀ w,Calls Tryz.prog 55 #[.string (s.extract 2 4)] w fun e w'=>e=.returned (.int .u64 (saidV s))∧w'=w):=fun w=>by
    have:=rnum_any (s.extract 2 4) w (by rw [ByteArray.size_extract];omega)
    rwa [said_num s h] at this
  have hpd:padV (saidV s)=(saidV s + 7) / 8 * 8:=rfl
  rw [hpd] at hpz h2 ⊢
  clear hpd
  have sl0:∀ w,(Instr.slice 9 (.string s) (some (.int .i64 2)) (some (.int .i64 4)) none).run Tryz.prog w=.ok (.string (s.extract 2 4)) w:=fun w=>slice_lh s 2 4 (by omega) (by omega) (by omega) w
  have sl1:∀ w,(Instr.slice 9 (.string s) (some (.int .i64 4)) (some (.int .i64 (saidV s))) none).run Tryz.prog w=.ok (.string (s.extract 4 (saidV s).toNat)) w:=fun w=>slice_lh s 4 _ (by omega) h3 (by omega) w
  have sl2:∀ w,(Instr.slice 9 (.string s) none (some (.int .i64 ((saidV s + 7) / 8 * 8))) none).run Tryz.prog w=.ok (.string (s.extract 0 ((saidV s + 7) / 8 * 8).toNat)) w:=fun w=>slice_h s _ (by omega) h2 w
  have hX:(s.extract 4 (saidV s).toNat).size≤100000:=by rw [ByteArray.size_extract];omega
  generalize s.extract 4 (saidV s).toNat=X at *
  generalize s.extract 0 ((saidV s + 7) / 8 * 8).toNat=Y at *
  generalize s.extract 2 4=X0 at *
  generalize saidV s=z at *
  have h' : ¬ ((s.size:Int) < 4):=by omega
  have h3' : ¬ (z < 4):=by omega
  generalize hR:rdL 10 [] X=R
  obtain ⟨i0,hi,hz0,hz1,hz2⟩:=info_parts infoT
  have HNm:Hid (∀ c w,Calls Tryz.prog 91 #[.int .i64 c] w fun e w'=>e=.returned (.int .i64 (fieldV c))∧Below w.heap.size w w'):=fun c w=>rnamed_any c w
  have HSz:Hid (∀ f w,Calls Tryz.prog 92 #[.int .i64 f] w fun e w'=>e=.returned (.int .i64 (szV f))∧Below w.heap.size w w'):=fun f w=>rsize_any f w
  have HAl:Hid (∀ f w,Calls Tryz.prog 93 #[.int .i64 f] w fun e w'=>e=.returned (.int .u64 (grV f))∧Below w.heap.size w w'):=fun f w=>rall_any f w
  have HNu:Hid (∀ q w,q.size≤100000→Calls Tryz.prog 55 #[.string q] w fun e w'=>e=.returned (.int .u64 (numOf q.data.toList))∧w'=w):=fun q w hq=>rnum_any q w (by omega)
  have HRi:Hid (∀ a (l:List T) cap w,Ts w a l→l.length≤10→TWs l→Calls Tryz.prog 77 #[.slice a l.length cap] w fun e w'=>e=.returned (.int .i64 (rightE l))∧Below w.heap.size w w'):=fun a l cap w h hl hw=>by
    have:=rright_any a l cap w h (by omega)
    rwa [rright_eq l [] hw (by simp [Rises])] at this
  have HBy:Hid (∀ a (l:List T) cap w,Ts w a l→l.length≤10→TWs l→rightE l=0→Calls Tryz.prog 78 #[.slice a l.length cap] w fun e w'=>e=.returned (.string (encS l))∧Below w.heap.size w w'):=fun a l cap w h hl hw hr=>rbytes_any a l cap w h (by omega) hw hr
  go_enter Tryz.func59,Tryz.ntmps59
  go_wp2_with fail
  refine (HN0.out _).mono ?_
  rintro x w1 ⟨rfl,rfl⟩
  go_wp2_with fail
  go_loopw [7,8] (fun v u wr=>∃ (l:List T) (q:ByteArray),rdL (10 - l.length) l q=R∧l.length≤10∧TWs l∧q.size≤100000∧u=.string q∧wr.ownsRow w1.heap.size 131 3 v l.length (flat l)∧Below w1.heap.size w1 wr) (fun _ u _=>strSize u)
  case atStart=>exact ⟨[],X,hR,by simp,by simp,hX,rfl,World.ownsRow_nil _ _ _ _,Below.refl _ _⟩
  case round =>
    obtain ⟨l,q,hr,hll,hlw,hqs,rfl,hown,hbel⟩:=hrel
    obtain ⟨a7,cap7,rfl⟩:=own_slice hown
    by_cases c4:4≤q.size∧l.length < 10
    · obtain ⟨c4,c10⟩:=c4
      have d4:(q.size:Int) ≥ 4:=by omega
      have d10:(l.length:Int) < 10:=by omega
      obtain ⟨m,hm⟩:∃ m,10 - l.length=m + 1:=⟨9 - l.length,by omega⟩
      have hgo:=rdL_good m l q c4
      have hba:=rdL_bad m l q c4
      rw [← hm,hr] at hgo hba
      have i2:=idxS q 2 (by omega)
      have i3:=idxS q 3 (by omega)
      obtain ⟨H0,H1⟩:=byteAt_lt q 2
      obtain ⟨B0,B1⟩:=byteAt_lt q 3
      simp only [Int.cast_ofNat_Int] at i2 i3
      have hn8:rdN q≤8:=szV_le _
      have HNm1:Hid (∀ w,Calls Tryz.prog 91 #[.int .i64 (byteAt q 2 / 2)] w fun e w'=>e=.returned (.int .i64 (rdF q))∧Below w.heap.size w w'):=fun w=>HNm.out _ w
      have HSz1:Hid (∀ w,Calls Tryz.prog 92 #[.int .i64 (rdF q)] w fun e w'=>e=.returned (.int .i64 (rdN q))∧Below w.heap.size w w'):=fun w=>HSz.out _ w
      have HAl1:Hid (∀ w,Calls Tryz.prog 93 #[.int .i64 (rdF q)] w fun e w'=>e=.returned (.int .u64 (grV (rdF q)))∧Below w.heap.size w w'):=fun w=>HAl.out _ w
      clear HNm HSz HAl
      cases hodd:(byteAt q 2 % 2 == 1)
      · have hp : ¬ byteAt q 2 % 2=1:=by simpa using hodd
        have eL:rdLong q=rdN q:=by unfold rdLong;rw [if_neg hp]
        have HT:Hid (rdT q=(rdF q,rdV q,grV (rdF q))):=(show _=_ by unfold rdT;rw [if_neg hp])
        clear hp
        cases f0:(rdF q == 0)
        · cases b3:(byteAt q 3 != ((rdN q:Int)))
          · by_cases s4:q.size < 4 + rdLong q
            · have HRn:Hid (R=none):=hba (by unfold rdBad;rw [decide_eq_true s4];simp)
              rw [eL] at s4
              have s4':(q.size:Int) < 4 + (rdN q:Int):=by omega
              clear hgo hba HT eL s4
              generalize rdF q=f at *
              generalize rdN q=n at *
              generalize byteAt q 2=H at *
              generalize byteAt q 3=B at *
              go_wp2_with fail
              refine (HNm1.out _).mono ?_
              rintro x w2 ⟨rfl,g2⟩
              go_wp2_with fail
              refine (HSz1.out _).mono ?_
              rintro x w3 ⟨rfl,g3⟩
              have g3:=btr (btr hbel g2 (Nat.le_refl _)) g3 (Nat.le_refl _)
              go_wp2_with fail
              go_ret3
              exact Fin.bad HRn.out ⟨rfl,g3⟩
            · have hgd:rdBad q=false:=by
                unfold rdBad
                rw [f0,decide_eq_false s4,eL]
                have:(byteAt q 3 != ((rdN q:Nat):Int))=false:=by simpa using b3
                rw [this];rfl
              have HG:Hid (rdL m (l ++ [rdT q]) (rdRest q)=R):=(hgo hgd).symm
              have hres:(rdRest q).size≤q.size - 4:=by unfold rdRest;rw [ByteArray.size_extract];omega
              have hrz:Hid ((rdRest q).size < q.size):=(show _ < _ by omega)
              have hrq:Hid ((rdRest q).size≤100000):=(show _≤_ by omega)
              have HTw:Hid (TW (rdT q)):=rdT_w q
              clear hba hgo hgd hres
              rw [eL] at s4
              have s4' : ¬ ((q.size:Int) < 4 + (rdN q:Int)):=by omega
              have sq1:∀ w,(Instr.slice 9 (.string q) (some (.int .i64 4)) (some (.int .i64 (4 + (rdN q:Int)))) none).run Tryz.prog w=.ok (.string (q.extract 4 (4 + rdN q))) w:=fun w=>by
                have:=slice_lh q 4 (4 + (rdN q:Int)) (by omega) (by omega) (by omega) w
                rwa [show (4 + (rdN q:Int)).toNat=4 + rdN q by omega,show Int.toNat 4=4 from rfl] at this
              have HV:Hid (∀ w,Calls Tryz.prog 55 #[.string (q.extract 4 (4 + rdN q))] w fun e w'=>e=.returned (.int .u64 (rdV q))∧w'=w):=fun w=>HNu.out _ w (by rw [ByteArray.size_extract];omega)
              have sq3:∀ w,(Instr.slice 9 (.string q) (some (.int .i64 (4 + (rdN q:Int)))) none none).run Tryz.prog w=.ok (.string (rdRest q)) w:=fun w=>by
                have:=slice_l q (4 + (rdN q:Int)) (by omega) (by omega) w
                rw [show (4 + (rdN q:Int)).toNat=4 + rdLong q by rw [eL];omega] at this
                exact this
              have HM10:Hid (m=10 - (l.length + 1)):=(show _=_ by omega)
              clear eL s4 hm hr hR
              generalize q.extract 4 (4 + rdN q)=Q1 at *
              generalize rdV q=V at *
              generalize rdRest q=Q3 at *
              generalize rdT q=tt at *
              generalize rdF q=f at *
              generalize rdN q=n at *
              generalize byteAt q 2=H at *
              generalize byteAt q 3=B at *
              generalize grV f=G at *
              go_wp2_with fail
              refine (HNm1.out _).mono ?_
              rintro x w2 ⟨rfl,g2⟩
              have own2:=owns_below hown g2
              go_wp2_with fail
              refine (HSz1.out _).mono ?_
              rintro x w3 ⟨rfl,g3'⟩
              have own3:=owns_below own2 g3'
              have g3:=btr (btr hbel g2 (Nat.le_refl _)) g3' (Nat.le_refl _)
              clear g2 g3' own2 hown hbel
              go_wp2_with fail
              refine (HV.out _).mono ?_
              rintro x w3' ⟨rfl,rfl⟩
              go_wp2_with fail
              refine (HAl1.out _).mono ?_
              rintro x w4 ⟨rfl,g4'⟩
              have own4:=owns_below own3 g4'
              have g4:=btr g3 g4' (Nat.le_refl _)
              clear own3 g3 g4'
              go_wp2_with (at_builtin;refine wpList_append_own _ rfl _ _ 22 rfl w1.heap.size 131 i0 (.agg #[.int .i64 0,.int .u64 0,.int .u64 0]) 3 24 Tryz.underlying22 hi hz0 hz1 hz2 rfl (by decide) _ l.length (flat l) rfl (owns_below own4 (by go_grown)) _ 1 1 [.int .i64 f,.int .u64 V,.int .u64 G] rfl rfl ?c1 ?c2 ?c3 ?c4 ?c5 ?_)
              case c1 =>
                intro j u hj
                match j,hj with
                | 0,hj=>simp at hj;subst hj;simp [Addr.add]
                | 1,hj=>simp at hj;subst hj;simp [Addr.add]
                | 2,hj=>simp at hj;subst hj;simp [Addr.add]
              case c2=>intro u hu;simp at hu;rcases hu with rfl | rfl | rfl <;> rfl
              case c3=>unfold maxLen;omega
              case c4=>omega
              case c5=>have:=g4.size;simp;omega
              · intro v' w6 hown' hgrow _
                have htt:=HT.out
                have R1:w6.ownsRow w1.heap.size 131 3 v' (l ++ [tt]).length (flat (l ++ [tt])):=by
                  rw [flat_snoc,List.length_append,htt]
                  exact hown'
                have R2:Below w1.heap.size w1 w6:=(btr g4 (by go_grown) (Nat.le_refl _)).grown hgrow (by have:=g4.size;simp;omega) (fun q hq=>(own4.lt q hq).1)
                have R3:Hid (TWs (l ++ [tt])):=by
                  intro t ht
                  rcases List.mem_append.1 ht with ht | ht
                  · exact hlw t ht
                  · simp at ht
                    subst ht
                    exact HTw.out
                have R4:Hid (rdL (10 - (l ++ [tt]).length) (l ++ [tt]) Q3=R):=(show _=_ by rw [List.length_append,List.length_singleton,← HM10.out];exact HG.out)
                clear hown' hgrow own4 g4
                go_wp2
                go_roundw
                case rel=>exact ⟨l ++ [tt],Q3,R4.out,by rw [List.length_append,List.length_singleton];omega,R3.out,hrq.out,rfl,R1,R2⟩
                case measure=>exact hrz.out
          · have HRn:Hid (R=none):=hba (by unfold rdBad;rw [eL];(have b3':(byteAt q 3 != ((rdN q:Nat):Int))=true:=by simpa using b3);rw [b3'];simp)
            clear hgo hba HT eL
            generalize rdF q=f at *
            generalize rdN q=n at *
            generalize byteAt q 2=H at *
            generalize byteAt q 3=B at *
            go_wp2_with fail
            refine (HNm1.out _).mono ?_
            rintro x w2 ⟨rfl,g2⟩
            go_wp2_with fail
            refine (HSz1.out _).mono ?_
            rintro x w3 ⟨rfl,g3⟩
            have g3:=btr (btr hbel g2 (Nat.le_refl _)) g3 (Nat.le_refl _)
            go_wp2_with fail
            go_ret3
            exact Fin.bad HRn.out ⟨rfl,g3⟩
        · have HRn:Hid (R=none):=hba (by unfold rdBad;rw [f0];simp)
          clear hgo hba HT eL
          generalize rdF q=f at *
          generalize rdN q=n at *
          generalize byteAt q 2=H at *
          generalize byteAt q 3=B at *
          go_wp2_with fail
          refine (HNm1.out _).mono ?_
          rintro x w2 ⟨rfl,g2⟩
          go_wp2_with fail
          refine (HSz1.out _).mono ?_
          rintro x w3 ⟨rfl,g3⟩
          have g3:=btr (btr hbel g2 (Nat.le_refl _)) g3 (Nat.le_refl _)
          go_wp2_with fail
          go_ret3
          exact Fin.bad HRn.out ⟨rfl,g3⟩
      · have hp:byteAt q 2 % 2=1:=by simpa using hodd
        have eL:rdLong q=2 * rdN q:=by unfold rdLong;rw [if_pos hp]
        have HT:Hid (rdT q=(rdF q,rdV q,rdM q)):=(show _=_ by unfold rdT;rw [if_pos hp])
        clear hp
        cases f0:(rdF q == 0)
        · cases b3:(byteAt q 3 != (2 * (rdN q:Int)))
          · by_cases s4:q.size < 4 + rdLong q
            · have HRn:Hid (R=none):=hba (by unfold rdBad;rw [decide_eq_true s4];simp)
              rw [eL] at s4
              have s4':(q.size:Int) < 4 + 2 * (rdN q:Int):=by omega
              clear hgo hba HT eL s4
              generalize rdF q=f at *
              generalize rdN q=n at *
              generalize byteAt q 2=H at *
              generalize byteAt q 3=B at *
              go_wp2_with fail
              refine (HNm1.out _).mono ?_
              rintro x w2 ⟨rfl,g2⟩
              go_wp2_with fail
              refine (HSz1.out _).mono ?_
              rintro x w3 ⟨rfl,g3⟩
              have g3:=btr (btr hbel g2 (Nat.le_refl _)) g3 (Nat.le_refl _)
              go_wp2_with fail
              go_ret3
              exact Fin.bad HRn.out ⟨rfl,g3⟩
            · have hgd:rdBad q=false:=by
                unfold rdBad
                rw [f0,decide_eq_false s4,eL]
                have:(byteAt q 3 != ((2 * rdN q:Nat):Int))=false:=by simpa using b3
                rw [this];rfl
              have HG:Hid (rdL m (l ++ [rdT q]) (rdRest q)=R):=(hgo hgd).symm
              have hres:(rdRest q).size≤q.size - 4:=by unfold rdRest;rw [ByteArray.size_extract];omega
              have hrz:Hid ((rdRest q).size < q.size):=(show _ < _ by omega)
              have hrq:Hid ((rdRest q).size≤100000):=(show _≤_ by omega)
              have HTw:Hid (TW (rdT q)):=rdT_w q
              clear hba hgo hgd hres
              rw [eL] at s4
              have s4' : ¬ ((q.size:Int) < 4 + 2 * (rdN q:Int)):=by omega
              have sq1:∀ w,(Instr.slice 9 (.string q) (some (.int .i64 4)) (some (.int .i64 (4 + (rdN q:Int)))) none).run Tryz.prog w=.ok (.string (q.extract 4 (4 + rdN q))) w:=fun w=>by
                have:=slice_lh q 4 (4 + (rdN q:Int)) (by omega) (by omega) (by omega) w
                rwa [show (4 + (rdN q:Int)).toNat=4 + rdN q by omega,show Int.toNat 4=4 from rfl] at this
              have HV:Hid (∀ w,Calls Tryz.prog 55 #[.string (q.extract 4 (4 + rdN q))] w fun e w'=>e=.returned (.int .u64 (rdV q))∧w'=w):=fun w=>HNu.out _ w (by rw [ByteArray.size_extract];omega)
              have sq3:∀ w,(Instr.slice 9 (.string q) (some (.int .i64 (4 + 2 * (rdN q:Int)))) none none).run Tryz.prog w=.ok (.string (rdRest q)) w:=fun w=>by
                have:=slice_l q (4 + 2 * (rdN q:Int)) (by omega) (by omega) w
                rw [show (4 + 2 * (rdN q:Int)).toNat=4 + rdLong q by rw [eL];omega] at this
                exact this
              have sq2:∀ w,(Instr.slice 9 (.string q) (some (.int .i64 (4 + (rdN q:Int)))) (some (.int .i64 (4 + 2 * (rdN q:Int)))) none).run Tryz.prog w=.ok (.string (q.extract (4 + rdN q) (4 + 2 * rdN q))) w:=fun w=>by
                have:=slice_lh q (4 + (rdN q:Int)) (4 + 2 * (rdN q:Int)) (by omega) (by omega) (by omega) w
                rwa [show (4 + (rdN q:Int)).toNat=4 + rdN q by omega,show (4 + 2 * (rdN q:Int)).toNat=4 + 2 * rdN q by omega] at this
              have HM:Hid (∀ w,Calls Tryz.prog 55 #[.string (q.extract (4 + rdN q) (4 + 2 * rdN q))] w fun e w'=>e=.returned (.int .u64 (rdM q))∧w'=w):=fun w=>HNu.out _ w (by rw [ByteArray.size_extract];omega)
              generalize q.extract (4 + rdN q) (4 + 2 * rdN q)=Q2 at *
              generalize rdM q=M at *
              have HM10:Hid (m=10 - (l.length + 1)):=(show _=_ by omega)
              clear eL s4 hm hr hR
              generalize q.extract 4 (4 + rdN q)=Q1 at *
              generalize rdV q=V at *
              generalize rdRest q=Q3 at *
              generalize rdT q=tt at *
              generalize rdF q=f at *
              generalize rdN q=n at *
              generalize byteAt q 2=H at *
              generalize byteAt q 3=B at *
              generalize grV f=G at *
              go_wp2_with fail
              refine (HNm1.out _).mono ?_
              rintro x w2 ⟨rfl,g2⟩
              have own2:=owns_below hown g2
              go_wp2_with fail
              refine (HSz1.out _).mono ?_
              rintro x w3 ⟨rfl,g3'⟩
              have own3:=owns_below own2 g3'
              have g3:=btr (btr hbel g2 (Nat.le_refl _)) g3' (Nat.le_refl _)
              clear g2 g3' own2 hown hbel
              go_wp2_with fail
              refine (HV.out _).mono ?_
              rintro x w3' ⟨rfl,rfl⟩
              go_wp2_with fail
              refine (HAl1.out _).mono ?_
              rintro x w4 ⟨rfl,g4'⟩
              have own4:=owns_below own3 g4'
              have g4:=btr g3 g4' (Nat.le_refl _)
              clear own3 g3 g4'
              go_wp2_with fail
              refine (HM.out _).mono ?_
              rintro x w5 ⟨rfl,rfl⟩
              go_wp2_with (at_builtin;refine wpList_append_own _ rfl _ _ 22 rfl w1.heap.size 131 i0 (.agg #[.int .i64 0,.int .u64 0,.int .u64 0]) 3 24 Tryz.underlying22 hi hz0 hz1 hz2 rfl (by decide) _ l.length (flat l) rfl (owns_below own4 (by go_grown)) _ 1 1 [.int .i64 f,.int .u64 V,.int .u64 M] rfl rfl ?c1 ?c2 ?c3 ?c4 ?c5 ?_)
              case c1 =>
                intro j u hj
                match j,hj with
                | 0,hj=>simp at hj;subst hj;simp [Addr.add]
                | 1,hj=>simp at hj;subst hj;simp [Addr.add]
                | 2,hj=>simp at hj;subst hj;simp [Addr.add]
              case c2=>intro u hu;simp at hu;rcases hu with rfl | rfl | rfl <;> rfl
              case c3=>unfold maxLen;omega
              case c4=>omega
              case c5=>have:=g4.size;simp;omega
              · intro v' w6 hown' hgrow _
                have htt:=HT.out
                have R1:w6.ownsRow w1.heap.size 131 3 v' (l ++ [tt]).length (flat (l ++ [tt])):=by
                  rw [flat_snoc,List.length_append,htt]
                  exact hown'
                have R2:Below w1.heap.size w1 w6:=(btr g4 (by go_grown) (Nat.le_refl _)).grown hgrow (by have:=g4.size;simp;omega) (fun q hq=>(own4.lt q hq).1)
                have R3:Hid (TWs (l ++ [tt])):=by
                  intro t ht
                  rcases List.mem_append.1 ht with ht | ht
                  · exact hlw t ht
                  · simp at ht
                    subst ht
                    exact HTw.out
                have R4:Hid (rdL (10 - (l ++ [tt]).length) (l ++ [tt]) Q3=R):=(show _=_ by rw [List.length_append,List.length_singleton,← HM10.out];exact HG.out)
                clear hown' hgrow own4 g4
                go_wp2
                go_roundw
                case rel=>exact ⟨l ++ [tt],Q3,R4.out,by rw [List.length_append,List.length_singleton];omega,R3.out,hrq.out,rfl,R1,R2⟩
                case measure=>exact hrz.out
          · have HRn:Hid (R=none):=hba (by unfold rdBad;rw [eL];(have b3':(byteAt q 3 != ((2 * rdN q:Nat):Int))=true:=by simpa using b3);rw [b3'];simp)
            clear hgo hba HT eL
            generalize rdF q=f at *
            generalize rdN q=n at *
            generalize byteAt q 2=H at *
            generalize byteAt q 3=B at *
            go_wp2_with fail
            refine (HNm1.out _).mono ?_
            rintro x w2 ⟨rfl,g2⟩
            go_wp2_with fail
            refine (HSz1.out _).mono ?_
            rintro x w3 ⟨rfl,g3⟩
            have g3:=btr (btr hbel g2 (Nat.le_refl _)) g3 (Nat.le_refl _)
            go_wp2_with fail
            go_ret3
            exact Fin.bad HRn.out ⟨rfl,g3⟩
        · have HRn:Hid (R=none):=hba (by unfold rdBad;rw [f0];simp)
          clear hgo hba HT eL
          generalize rdF q=f at *
          generalize rdN q=n at *
          generalize byteAt q 2=H at *
          generalize byteAt q 3=B at *
          go_wp2_with fail
          refine (HNm1.out _).mono ?_
          rintro x w2 ⟨rfl,g2⟩
          go_wp2_with fail
          refine (HSz1.out _).mono ?_
          rintro x w3 ⟨rfl,g3⟩
          have g3:=btr (btr hbel g2 (Nat.le_refl _)) g3 (Nat.le_refl _)
          go_wp2_with fail
          go_ret3
          exact Fin.bad HRn.out ⟨rfl,g3⟩
    · have hRl:R=some l:=by
        rw [← hr]
        by_cases c4':4≤q.size
        · have:10 - l.length=0:=by omega
          rw [this];rfl
        · exact rdL_short _ _ _ c4'
      have HTF:Hid (l.length≤cap7∧TsF _ _ a7 l):=(show _∧TsF _ _ _ _ from (own_ts hown).elim fun a' h=>h.elim fun c' h=>by
        obtain ⟨hv,hc,hF⟩:=h
        simp only [Value.slice.injEq] at hv
        obtain ⟨rfl,_,rfl⟩:=hv
        exact ⟨hc,hF⟩)
      have hTl:=ts_own hown
      have hTn:∀ n:GrT wr,Ts n.w a7 l:=fun n=>hTl.gr n
      have d4 : ¬ (q.size:Int) ≥ 4∨(q.size:Int) ≥ 4∧¬ (l.length:Int) < 10:=by omega
      clear hr c4 hR hX
      rcases d4 with d4 | ⟨d4,d10⟩
      all_goals
        by_cases hr0:rightE l=0
        · have HR1:Hid (∀ w,Ts w a7 l→Calls Tryz.prog 77 #[.slice a7 l.length cap7] w fun e w'=>e=.returned (.int .i64 0)∧Below w.heap.size w w'):=fun w h=>hr0 ▸ HRi.out a7 l cap7 w h hll hlw
          have HB1:Hid (∀ w,Ts w a7 l→Calls Tryz.prog 78 #[.slice a7 l.length cap7] w fun e w'=>e=.returned (.string (encS l))∧Below w.heap.size w w'):=fun w h=>HBy.out a7 l cap7 w h hll hlw hr0
          by_cases he:encS l=Y
          · have hqq:(!(encS l).toList == Y.toList)=false:=by rw [he];simp
            have HY:Hid (R=some l∧(rightE l=0∧encS l=Y)):=⟨hRl,hr0,he⟩
            clear he hRl hr0
            generalize encS l=E at HB1 hqq
            go_wp2_with fail
            refine wp_region_grow (by kernel_rfl) (by kernel_rfl) ?_
            repeat (go_big_quiet_step (first | (go_at_call 77;exact quiet_gr (HR1.out _ (hTn _))) | (go_at_call 78;exact quiet_gr (HB1.out _ (hTn _)))))
            refine wpQuiet_nil ?_
            rintro w2 hw'
            have g2:=gr_elim hw'
            clear hw'
            try rw [hqq]
            go_wp2_with fail
            go_ret3
            exact Fin.yes HY.out.1 HY.out.2 ⟨a7,cap7,rfl,HTF.out.1,HTF.out.2.below g2,btr hbel g2 (Nat.le_refl _)⟩
          · have hqq:(!(encS l).toList == Y.toList)=true:=by
              rw [Bool.not_eq_true',beq_eq_false_iff_ne]
              intro hh
              apply he
              apply ba_ext
              rw [← ByteArray.toList_eq,← ByteArray.toList_eq]
              exact hh
            have HY:Hid (R=some l∧¬ (rightE l=0∧encS l=Y)):=⟨hRl,fun hh=>he hh.2⟩
            clear he hRl hr0
            generalize encS l=E at HB1 hqq
            go_wp2_with fail
            refine wp_region_grow (by kernel_rfl) (by kernel_rfl) ?_
            repeat (go_big_quiet_step (first | (go_at_call 77;exact quiet_gr (HR1.out _ (hTn _))) | (go_at_call 78;exact quiet_gr (HB1.out _ (hTn _)))))
            refine wpQuiet_nil ?_
            rintro w2 hw'
            have g2:=gr_elim hw'
            clear hw'
            try rw [hqq]
            go_wp2_with fail
            go_ret3
            exact Fin.no HY.out.1 HY.out.2 ⟨rfl,btr hbel g2 (Nat.le_refl _)⟩
        · have HR1:Hid (∀ w,Ts w a7 l→Calls Tryz.prog 77 #[.slice a7 l.length cap7] w fun e w'=>e=.returned (.int .i64 (rightE l))∧Below w.heap.size w w'):=fun w h=>HRi.out a7 l cap7 w h hll hlw
          have hrb:(rightE l != 0)=true:=by simpa using hr0
          have HY:Hid (R=some l∧¬ (rightE l=0∧encS l=Y)):=⟨hRl,fun hh=>hr0 hh.1⟩
          clear hRl hr0
          generalize rightE l=E at HR1 hrb
          go_wp2_with fail
          refine wp_region_grow (by kernel_rfl) (by kernel_rfl) ?_
          repeat (go_big_quiet_step (first | (go_at_call 77;exact quiet_gr (HR1.out _ (hTn _)))))
          refine wpQuiet_nil ?_
          rintro w2 hw'
          have g2:=gr_elim hw'
          clear hw'
          go_wp2_with fail
          go_ret3
          exact Fin.no HY.out.1 HY.out.2 ⟨rfl,btr hbel g2 (Nat.le_refl _)⟩
theorem trip_body (l:List T) (hr:rightE l=0) (x:ByteArray):(encS l ++ x).extract 4 (saidV (encS l ++ x)).toNat=bodyGo [] l:=by
 have hb:=body_right l hr
 have e:encS l ++ x=pb 1 2 ++ (pb (4 + (bodyGo [] l).size) 2 ++ (bodyGo [] l ++ (zeros (padV (4 + (bodyGo [] l).size) - (4 + (bodyGo [] l).size)).toNat ++ x))):=by
  unfold encS;simp only [ap_assoc]
 have hsaid:saidV (encS l ++ x)=4 + (bodyGo [] l).size:=by
  unfold saidV
  rw [e,skip2_ap,num2_ap _ _ (by omega) (by omega)]
 rw [hsaid]
 have h4:(pb 1 2 ++ pb (4 + (bodyGo [] l).size) 2).size=4:=by rw [ByteArray.size_append,pb_size,pb_size]
 have:=extract_mid (pb 1 2 ++ pb (4 + (bodyGo [] l).size) 2) (bodyGo [] l) (zeros (padV (4 + (bodyGo [] l).size) - (4 + (bodyGo [] l).size)).toNat ++ x)
 rw [h4] at this
 rw [e,← ap_assoc,show (4 + ((bodyGo [] l).size:Int)).toNat=4 + (bodyGo [] l).size by omega]
 exact this
theorem wholeOk_of (s:ByteArray) (h2:padV (saidV s)≤s.size) (h3:4≤saidV s) (L:List T) (hw:TWs L) (hr:rightE L=0) (he:encS L=s.extract 0 (padV (saidV s)).toNat):wholeOk s∧testsOf s=L:=by
 have hp:=padV_ge (saidV s)
 have e:s=encS L ++ s.extract (padV (saidV s)).toNat s.size:=by
  rw [he]
  apply ba_ext
  simp only [ByteArray.data_append,ByteArray.data_extract,Array.toList_append,Array.toList_extract]
  rw [List.extract_eq_take_drop,List.extract_eq_take_drop]
  have hl:s.data.toList.length=s.size:=by simp
  generalize s.data.toList=l at *
  rw [List.drop_zero,Nat.sub_zero,List.take_of_length_le (l:=l.drop _) (by rw [List.length_drop];omega),List.take_append_drop]
 obtain ⟨a,b,_⟩:=trip L hr hw (s.extract (padV (saidV s)).toNat s.size)
 rw [← e] at a b
 exact ⟨a,b⟩
theorem rdL_of (s:ByteArray) (hok:wholeOk s):rdL 10 [] (s.extract 4 (saidV s).toNat)=some (testsOf s):=by
 obtain ⟨h,h2,h3,hr,he⟩:=hok
 have hw:TWs (testsOf s):=readN_w _ _
 have hp:=padV_ge (saidV s)
 have hb:=body_right _ hr
 have e:s=encS (testsOf s) ++ s.extract (padV (saidV s)).toNat s.size:=by
  rw [he]
  apply ba_ext
  simp only [ByteArray.data_append,ByteArray.data_extract,Array.toList_append,Array.toList_extract]
  rw [List.extract_eq_take_drop,List.extract_eq_take_drop]
  have hl:s.data.toList.length=s.size:=by simp
  generalize s.data.toList=l at *
  rw [List.drop_zero,Nat.sub_zero,List.take_of_length_le (l:=l.drop _) (by rw [List.length_drop];omega),List.take_append_drop]
 have hbody:=trip_body (testsOf s) hr (s.extract (padV (saidV s)).toNat s.size)
 rw [← e] at hbody
 rw [hbody]
 have hl:=right_short _ hr
 have hh:=rd_body (testsOf s) [] hr hw (by simp;omega)
 simp only [List.length_nil,Nat.sub_zero,List.nil_append] at hh
 exact hh
theorem rdL_w:∀ (n:Nat) (l:List T) (q:ByteArray) (L:List T),rdL n l q=some L→TWs l→TWs L
  | 0,l,_,L,h,hw=>by rw [rdL] at h;cases h;exact hw
  | n + 1,l,q,L,h,hw=>by
    by_cases h4:4≤q.size
    · cases hb:rdBad q with
      | true=>rw [rdL_bad n l q h4 hb] at h;cases h
      | false =>
        rw [rdL_good n l q h4 hb] at h
        refine rdL_w n _ _ L h ?_
        intro t ht
        rcases List.mem_append.1 ht with ht | ht
        · exact hw t ht
        · simp at ht
          subst ht
          exact rdT_w q
    · rw [rdL_short _ _ _ h4] at h;cases h;exact hw
theorem rdec_short (s:ByteArray) (w:World) (h:s.size < 4):Calls Tryz.prog 59 #[.string s] w (Nope w 10):=by
 have h':(s.size:Int) < 4:=by omega
 unfold Nope
 go_enter Tryz.func59,Tryz.ntmps59
 go_wp2_with fail
 go_ret3
 exact ⟨rfl,Below.refl _ _⟩
theorem rdec_end (s:ByteArray) (w:World) (h:4≤s.size) (h2:s.size < padV (saidV s)):Calls Tryz.prog 59 #[.string s] w (Nope w 10):=by
 have h' : ¬ ((s.size:Int) < 4):=by omega
 obtain ⟨z0,z1⟩:=saidV_lt s
 have HN0:Hid (∀ w,Calls Tryz.prog 55 #[.string (s.extract 2 4)] w fun e w'=>e=.returned (.int .u64 (saidV s))∧w'=w):=fun w=>by
  have:=rnum_any (s.extract 2 4) w (by rw [ByteArray.size_extract];omega)
  rwa [said_num s h] at this
 have hpd:padV (saidV s)=(saidV s + 7) / 8 * 8:=rfl
 rw [hpd] at h2
 clear hpd
 have sl0:∀ w,(Instr.slice 9 (.string s) (some (.int .i64 2)) (some (.int .i64 4)) none).run Tryz.prog w=.ok (.string (s.extract 2 4)) w:=fun w=>slice_lh s 2 4 (by omega) (by omega) (by omega) w
 unfold Nope
 generalize s.extract 2 4=X0 at *
 generalize saidV s=z at *
 go_enter Tryz.func59,Tryz.ntmps59
 go_wp2_with fail
 refine (HN0.out _).mono ?_
 rintro x w1 ⟨rfl,rfl⟩
 go_wp2_with fail
 go_ret3
 exact ⟨rfl,Below.refl _ _⟩
theorem rdec_low (s:ByteArray) (w:World) (h:4≤s.size) (h2:padV (saidV s)≤s.size) (h3:saidV s < 4):Calls Tryz.prog 59 #[.string s] w (Nope w 11):=by
 have h' : ¬ ((s.size:Int) < 4):=by omega
 obtain ⟨z0,z1⟩:=saidV_lt s
 have HN0:Hid (∀ w,Calls Tryz.prog 55 #[.string (s.extract 2 4)] w fun e w'=>e=.returned (.int .u64 (saidV s))∧w'=w):=fun w=>by
  have:=rnum_any (s.extract 2 4) w (by rw [ByteArray.size_extract];omega)
  rwa [said_num s h] at this
 have hpd:padV (saidV s)=(saidV s + 7) / 8 * 8:=rfl
 rw [hpd] at h2
 clear hpd
 have h2' : ¬ ((s.size:Int) < (saidV s + 7) / 8 * 8):=by omega
 have sl0:∀ w,(Instr.slice 9 (.string s) (some (.int .i64 2)) (some (.int .i64 4)) none).run Tryz.prog w=.ok (.string (s.extract 2 4)) w:=fun w=>slice_lh s 2 4 (by omega) (by omega) (by omega) w
 unfold Nope
 generalize s.extract 2 4=X0 at *
 generalize saidV s=z at *
 go_enter Tryz.func59,Tryz.ntmps59
 go_wp2_with fail
 refine (HN0.out _).mono ?_
 rintro x w1 ⟨rfl,rfl⟩
 go_wp2_with fail
 go_ret3
 exact ⟨rfl,Below.refl _ _⟩
theorem rdec_nope (s:ByteArray) (w:World) (hs:s.size≤100000) (hok : ¬ wholeOk s):Calls Tryz.prog 59 #[.string s] w (Nope w (decE s)):=by
  unfold decE
  by_cases h1:s.size < 4
  · rw [if_pos h1];exact rdec_short s w h1
  · rw [if_neg h1]
    by_cases h2:(s.size:Int) < padV (saidV s)
    · rw [if_pos h2];exact rdec_end s w (by omega) h2
    · rw [if_neg h2]
      by_cases h3:saidV s < 4
      · exact rdec_low s w (by omega) (by omega) h3
      · refine (rdec_main s w hs (by omega) (by omega) (by omega)).mono fun e w' hF => ?_
        cases hR:rdL 10 [] (s.extract 4 (saidV s).toNat) with
        | none=>exact hF.1 hR
        | some L =>
          refine (hF.2 L hR).1 fun hy=>hok ?_
          exact (wholeOk_of s (by omega) (by omega) L (rdL_w _ _ _ _ hR (by simp [TWs])) hy.1 hy.2).1
theorem rdec_yes (s:ByteArray) (w:World) (hs:s.size≤100000) (hok:wholeOk s):Calls Tryz.prog 59 #[.string s] w fun e w'=>∃ a cap,e=.returned (.tuple #[.slice a (testsOf s).length cap,.int .i64 (padV (saidV s)),.int .i64 0])∧(testsOf s).length≤cap∧TsF w.heap.size w' a (testsOf s)∧Below w.heap.size w w':=by
 have hR:=rdL_of s hok
 obtain ⟨h1,h2,h3,h4,h5⟩:=hok
 refine (rdec_main s w hs h1 h2 h3).mono fun e w' hF => ?_
 exact (hF.2 _ hR).2 ⟨h4,h5⟩
end Go.Proofs.YtlcbfdiohcbpbaaGreatDoor.Mt

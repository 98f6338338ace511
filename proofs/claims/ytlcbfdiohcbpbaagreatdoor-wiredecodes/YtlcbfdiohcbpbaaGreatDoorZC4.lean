import Derived.Test.YtlcbfdiohcbpbaaGreatDoorZC3
import Derived.Test.YtlcbfdiohcbpbaaGreatDoorZA2
import Derived.Test.YtlcbfdiohcbpbaaGreatDoorZC2
namespace Go.Proofs.YtlcbfdiohcbpbaaGreatDoor
set_option maxRecDepth 20000
set_option maxHeartbeats 16000000
theorem pieces_num:∀ (n:Nat) (l:List UInt8),l.length=n→n≤8→(pieces (numOf l) n).map (fun n=>UInt8.ofNat n.toNat)=l
  | 0,l,h,_=>by rw [List.length_eq_zero_iff.1 h];rfl
  | n + 1,l,h,hn=>by
    have hne:l≠[]:=by intro h0;subst h0;simp at h
    have e:=List.dropLast_concat_getLast hne
    have hl:l.dropLast.length=n:=by simp [h]
    have ih:=pieces_num n l.dropLast hl (by omega)
    obtain ⟨b0,b1⟩:=numOf_lt l.dropLast (by omega)
    have hb:(256:Int) ^ l.dropLast.length≤72057594037927936:=by
      have h:=Nat.pow_le_pow_right (show 0 < 256 by decide) (show l.dropLast.length≤7 by omega)
      have h2:((256 ^ l.dropLast.length:Nat):Int)≤72057594037927936:=by omega
      rwa [Int.natCast_pow] at h2
    have hc:=(l.getLast hne).toNat_lt
    have hv:numOf l=numOf l.dropLast * 256 + ((l.getLast hne).toNat:Int):=by
      conv=>lhs;rw [← e,numOf_snoc]
      exact stepN_eq _ _ b0 (by omega)
    rw [hv,pieces,show (numOf l.dropLast * 256 + ((l.getLast hne).toNat:Int)) / 256=numOf l.dropLast by omega,show (numOf l.dropLast * 256 + ((l.getLast hne).toNat:Int)) % 256=((l.getLast hne).toNat:Int) by omega,List.map_append,ih]
    conv=>rhs;rw [← e]
    simp
theorem pb_num (l:ByteArray) (k:Nat) (h:l.size=k) (hk:k≤8):pb (numOf l.data.toList) k=l:=by
 apply ba_ext
 rw [pb_list]
 exact pieces_num k _ (by rw [len_size];exact h) hk
theorem pb_nm (s:ByteArray) (i j:Nat) (h:j≤s.size) (hij:i≤j) (hk:j≤i + 8):pb (nm s i j) (j - i)=s.extract i j :=
 pb_num _ _ (by rw [ByteArray.size_extract];omega) (by omega)
theorem ext_ext (s:ByteArray) (i n a b:Nat):(s.extract i n).extract a b=s.extract (i + a) (min (i + b) n):=by
 apply ba_ext
 simp only [ByteArray.data_extract,Array.toList_extract,List.extract_eq_take_drop,List.drop_take,List.take_take,List.drop_drop]
 congr 1
 omega
theorem ext_split (s:ByteArray) (i j k:Nat) (h1:i≤j) (h2:j≤k) (h3:k≤s.size):s.extract i k=s.extract i j ++ s.extract j k:=by
 have hz:(s.extract i k).size=k - i:=by rw [ByteArray.size_extract];omega
 have e:=cut_append (s.extract i k) (j - i) (by omega)
 rw [ext_ext,ext_ext,hz] at e
 rw [e]
 congr 2 <;> omega
theorem s_split (s:ByteArray) (h:4≤s.size):s=pb (nm s 0 2) 2 ++ (pb (nm s 2 4) 2 ++ s.extract 4 s.size):=by
 have e:=ext_all s s.size (Nat.le_refl _)
 rw [ext_split s 0 2 s.size (by omega) (by omega) (by omega),ext_split s 2 4 s.size (by omega) (by omega) (by omega)] at e
 have a:=pb_nm s 0 2 (by omega) (by omega) (by omega)
 have b:=pb_nm s 2 4 (by omega) (by omega) (by omega)
 rw [show 2 - 0=2 from rfl] at a
 rw [show 4 - 2=2 from rfl] at b
 rw [a,b]
 exact e.symm
theorem num2_nm (s:ByteArray) (h:2≤s.size):num2 s=nm s 0 2:=by
 have hle:(2:Int)≤(s.size:Int):=by omega
 unfold num2 RS.num numV takeV nm
 rw [if_pos ⟨rfl,by decide,hle⟩]
 rfl
structure Pt (s:ByteArray) (p:Int):Prop where
 z:8≤s.size
 p:nm s 0 2=p
 n:nm s 2 4=s.size
theorem part_iff {s:ByteArray} {p:Int} (h:Pt s p) (y:Sp):partX p y=s↔hasX p y=true∧bodyX p y=s.extract 4 s.size:=by
  have hz:=h.z
  have e:=s_split s (by omega)
  rw [h.p,h.n] at e
  constructor
  · intro hp
    have hb:hasX p y=true:=by
      cases hb:hasX p y with
      | true=>rfl
      | false =>
        rw [has_none hb] at hp
        rw [← hp] at hz
        have:(⟨#[]⟩:ByteArray).size=0:=rfl
        omega
    refine ⟨hb,?_⟩
    have e2:=has_some hb
    rw [← ap_assoc] at e2
    rw [← hp,e2]
    exact (ext_from _ _ 4 (by simp only [ByteArray.size_append,pb_size])).symm
  · intro ⟨hb,hB⟩
    have ht:(s.extract 4 s.size).size=s.size - 4:=by rw [ByteArray.size_extract];omega
    rw [has_some hb,hB,ht,show (4:Int) + ((s.size - 4:Nat):Int)=(s.size:Int) by omega]
    exact e.symm
theorem rs4_4 (s:ByteArray) (h:8≤s.size):(rs4 s).num 4=nm s 4 8:=by
 have hz:(s.extract 4 s.size).size=s.size - 4:=by rw [ByteArray.size_extract];omega
 unfold rs4 RS.num numV takeV nm
 rw [if_pos ⟨rfl,by decide,by show (4:Int)≤((s.extract 4 s.size).size:Int);omega⟩]
 show numOf ((s.extract 4 s.size).extract 0 4).data.toList=_
 rw [ext_ext,show min (4 + 4) s.size=8 by omega]
theorem rs4_1 (s:ByteArray) (h:8≤s.size):(rs4 s).num 1=nm s 4 5:=by
 have hz:(s.extract 4 s.size).size=s.size - 4:=by rw [ByteArray.size_extract];omega
 unfold rs4 RS.num numV takeV nm
 rw [if_pos ⟨rfl,by decide,by show (1:Int)≤((s.extract 4 s.size).size:Int);omega⟩]
 show numOf ((s.extract 4 s.size).extract 0 1).data.toList=_
 rw [ext_ext,show min (4 + 1) s.size=5 by omega]
theorem rs4_s4 (s:ByteArray) (h:8≤s.size):(rs4 s).skip 4=⟨s.extract 8 s.size,0⟩:=by
 have hz:(s.extract 4 s.size).size=s.size - 4:=by rw [ByteArray.size_extract];omega
 have e:s.extract 4 s.size=s.extract 4 8 ++ s.extract 8 s.size:=ext_split s 4 8 s.size (by omega) (by omega) (by omega)
 unfold rs4
 rw [e]
 exact skip_ap _ _ 4 (by rw [ByteArray.size_extract];omega) (by decide)
theorem mt_24 (s:ByteArray) (h:s.size=24):((rs4 s).skip 4).num 8=nm s 8 16∧(((rs4 s).skip 4).skip 8).num 8=nm s 16 24:=by
 rw [rs4_s4 s (by omega),h]
 have e:s.extract 8 24=s.extract 8 16 ++ s.extract 16 24:=ext_split s 8 16 24 (by omega) (by omega) (by omega)
 have z1:(s.extract 8 16).size=8:=by rw [ByteArray.size_extract];omega
 have z2:(s.extract 16 24).size=8:=by rw [ByteArray.size_extract];omega
 refine ⟨?_,?_⟩
 ·unfold RS.num numV takeV nm
  rw [if_pos ⟨rfl,by decide,by show (8:Int)≤((s.extract 8 24).size:Int);rw [e,ByteArray.size_append];omega⟩]
  show numOf ((s.extract 8 24).extract 0 8).data.toList=_
  rw [ext_ext]
  rfl
 ·rw [e]
  have e2:(⟨s.extract 8 16 ++ s.extract 16 24,0⟩:RS).skip 8=⟨s.extract 16 24,0⟩:=skip_ap _ _ 8 z1 (by decide)
  rw [e2]
  unfold RS.num numV takeV nm
  rw [if_pos ⟨rfl,by decide,by show (8:Int)≤((s.extract 16 24).size:Int);omega⟩]
  show numOf ((s.extract 16 24).extract 0 8).data.toList=_
  rw [ext_ext]
  rfl
theorem nm_byte (s:ByteArray) (i:Nat) (h:i < s.size):nm s i (i + 1)=byteAt s i:=by
 have hl:i < s.data.toList.length:=by rw [len_size];exact h
 have e:(s.extract i (i + 1)).data.toList=[s.data.toList.getD i 0]:=by
  simp only [ByteArray.data_extract,Array.toList_extract,List.extract_eq_take_drop]
  rw [show i + 1 - i=1 by omega,List.getD_eq_getElem?_getD,List.getElem?_eq_getElem hl,List.drop_eq_getElem_cons hl]
  rfl
 unfold nm byteAt
 rw [e]
 show stepN 0 _=_
 rw [stepN_eq _ _ (by omega) (by omega)]
 omega
theorem take_6 {s:ByteArray} (h:Pt s 6) (x:Sp):(s.size=8∧nm s 4 8≠0)↔partX 6 (readX 6 s x)=s:=by
 have hz:=h.z
 rw [part_iff h]
 have e:readX 6 s x={ x with met:=nm s 4 8 }:=by
  show ({ x with met:=(rs4 s).num 4 }:Sp)=_
  rw [rs4_4 s hz]
 rw [e]
 show _↔(nm s 4 8 != 0)=true∧pb (nm s 4 8) 4=s.extract 4 s.size
 have hp:=pb_nm s 4 8 (by omega) (by omega) (by omega)
 rw [show 8 - 4=4 from rfl] at hp
 rw [hp]
 constructor
 ·intro ⟨h1,h2⟩
  exact ⟨by simpa using h2,by rw [h1]⟩
 ·intro ⟨h1,h2⟩
  have:=congrArg ByteArray.size h2
  rw [ByteArray.size_extract,ByteArray.size_extract] at this
  exact ⟨by omega,by simpa using h1⟩
theorem take_5 {s:ByteArray} (h:Pt s 5) (x:Sp):s.extract 2 s.size=⟨#[0,8,0,0,0,0]⟩↔partX 5 (readX 5 s x)=s:=by
 have hz:=h.z
 rw [part_iff h]
 show _↔true=true∧gap4=s.extract 4 s.size
 have e:=ext_split s 2 4 s.size (by omega) (by omega) (by omega)
 have hp:=pb_nm s 2 4 (by omega) (by omega) (by omega)
 rw [show 4 - 2=2 from rfl,h.n] at hp
 have z2:(s.extract 2 4).size=2:=by rw [ByteArray.size_extract];omega
 constructor
 ·intro h1
  refine ⟨rfl,?_⟩
  have e2:(s.extract 2 s.size).extract 2 (s.extract 2 s.size).size=s.extract 4 s.size:=by
   rw [e]
   exact ext_from _ _ 2 z2
  rw [← e2,h1]
  decide +kernel
 ·intro ⟨_,h2⟩
  have hs:s.size=8:=by
   have:=congrArg ByteArray.size h2
   rw [ByteArray.size_extract] at this
   have g:gap4.size=4:=rfl
   omega
  rw [e,← h2,← hp,hs]
  decide +kernel
theorem take_l {s:ByteArray} (hz:8≤s.size):((decR (s.extract 8 s.size)).2=0∧0 < (decL s).length∧s.extract 4 8=gap4)↔(0 < (decL s).length∧gap4 ++ encodeS (decL s)=s.extract 4 s.size):=by
 have e:=ext_split s 4 8 s.size (by omega) (by omega) (by omega)
 have z4:(s.extract 4 8).size=4:=by rw [ByteArray.size_extract];omega
 constructor
 ·intro ⟨h1,h2,h3⟩
  refine ⟨h2,?_⟩
  unfold decL
  rw [(enc_dec _ h1).2,e,h3]
 ·intro ⟨h2,h3⟩
  have h1:(decR (s.extract 8 s.size)).2=0:=by
   by_cases h0:(decR (s.extract 8 s.size)).2=0
   ·exact h0
   ·unfold decL at h2
    rw [decR_bad _ h0] at h2
    exact absurd h2 (by simp)
  refine ⟨h1,h2,?_⟩
  have a:=ext_left gap4 (encodeS (decL s)) 4 rfl
  have b:=ext_left (s.extract 4 8) (s.extract 8 s.size) 4 z4
  rw [← a,← b,h3,e]
theorem take_4 {s:ByteArray} (h:Pt s 4) (x:Sp):((decR (s.extract 8 s.size)).2=0∧0 < (decL s).length∧s.extract 4 8=gap4)↔partX 4 (readX 4 s x)=s:=by
 rw [part_iff h,take_l h.z,show readX 4 s x={ x with la:=decL s } from rfl]
 generalize decL s=L
 show _↔decide (0 < L.length)=true∧gap4 ++ encodeS L=s.extract 4 s.size
 simp
theorem take_3 {s:ByteArray} (h:Pt s 3) (x:Sp):((decR (s.extract 8 s.size)).2=0∧0 < (decL s).length∧s.extract 4 8=gap4)↔partX 3 (readX 3 s x)=s:=by
 rw [part_iff h,take_l h.z,show readX 3 s x={ x with lw:=decL s } from rfl]
 generalize decL s=L
 show _↔decide (0 < L.length)=true∧gap4 ++ encodeS L=s.extract 4 s.size
 simp
theorem take_2 {s:ByteArray} (h:Pt s 2) (x:Sp):(s.size=24∧s.extract 4 8=gap4∧nm s 16 24≠0)↔partX 2 (readX 2 s x)=s:=by
 have hz:=h.z
 rw [part_iff h]
 by_cases h24:s.size=24
 ·obtain ⟨e1,e2⟩:=mt_24 s h24
  have e:readX 2 s x={ x with mt:=nm s 8 16,mm:=nm s 16 24 }:=by
   show ({ x with mt:=((rs4 s).skip 4).num 8,mm:=(((rs4 s).skip 4).skip 8).num 8 }:Sp)=_
   rw [e1,e2]
  rw [e]
  show _↔(nm s 16 24 != 0)=true∧gap4 ++ pb (nm s 8 16) 8 ++ pb (nm s 16 24) 8=s.extract 4 s.size
  have p1:=pb_nm s 8 16 (by omega) (by omega) (by omega)
  have p2:=pb_nm s 16 24 (by omega) (by omega) (by omega)
  rw [show 16 - 8=8 from rfl] at p1
  rw [show 24 - 16=8 from rfl] at p2
  rw [p1,p2,h24,ext_split s 4 8 24 (by omega) (by omega) (by omega),ext_split s 8 16 24 (by omega) (by omega) (by omega),ap_assoc]
  have z4:(s.extract 4 8).size=4:=by rw [ByteArray.size_extract];omega
  constructor
  ·intro ⟨_,h2,h3⟩
   exact ⟨by simpa using h3,by rw [h2]⟩
  ·intro ⟨h3,h2⟩
   refine ⟨rfl,?_,by simpa using h3⟩
   have a:=ext_left gap4 (s.extract 8 16 ++ s.extract 16 24) 4 rfl
   have b:=ext_left (s.extract 4 8) (s.extract 8 16 ++ s.extract 16 24) 4 z4
   rw [← a,← b,h2]
 ·constructor
  ·intro hh;exact absurd hh.1 h24
  ·intro ⟨_,h2⟩
   have:=congrArg ByteArray.size h2
   rw [ByteArray.size_extract] at this
   have hb:(bodyX 2 (readX 2 s x)).size=20:=by
    show (gap4 ++ pb _ 8 ++ pb _ 8).size=20
    simp only [ByteArray.size_append,pb_size]
    rfl
   omega
theorem take_1 {s:ByteArray} (h:Pt s 1) (x:Sp):(s.size=8∧s.extract 5 s.size=⟨#[0,0,0]⟩∧byteAt s 4≠0)↔partX 1 (readX 1 s x)=s:=by
 have hz:=h.z
 rw [part_iff h]
 have e:readX 1 s x={ x with go:=byteAt s 4 }:=by
  show ({ x with go:=(rs4 s).num 1 }:Sp)=_
  rw [rs4_1 s hz,nm_byte s 4 (by omega)]
 rw [e]
 show _↔(byteAt s 4 != 0)=true∧pb (byteAt s 4) 1 ++ gap3=s.extract 4 s.size
 have p1:=pb_nm s 4 5 (by omega) (by omega) (by omega)
 rw [show 5 - 4=1 from rfl,nm_byte s 4 (by omega)] at p1
 have z1:(s.extract 4 5).size=1:=by rw [ByteArray.size_extract];omega
 rw [p1,ext_split s 4 5 s.size (by omega) (by omega) (by omega)]
 constructor
 ·intro ⟨_,h2,h3⟩
  exact ⟨by simpa using h3,by rw [h2];rfl⟩
 ·intro ⟨h3,h2⟩
  have a:=ext_from (s.extract 4 5) gap3 1 z1
  have b:=ext_from (s.extract 4 5) (s.extract 5 s.size) 1 z1
  have hg:s.extract 5 s.size=gap3:=by rw [← a,← b,h2]
  refine ⟨?_,hg,by simpa using h3⟩
  have:=congrArg ByteArray.size hg
  rw [ByteArray.size_extract] at this
  have g:gap3.size=3:=rfl
  omega
theorem readX6 {s:ByteArray} (h:Pt s 6) (x:Sp):readX 6 s x={ x with met:=nm s 4 8 }:=by
 show ({ x with met:=(rs4 s).num 4 }:Sp)=_
 rw [rs4_4 s h.z]
theorem readX2 {s:ByteArray} (h:s.size=24) (x:Sp):readX 2 s x={ x with mt:=nm s 8 16,mm:=nm s 16 24 }:=by
 obtain ⟨e1,e2⟩:=mt_24 s h
 show ({ x with mt:=((rs4 s).skip 4).num 8,mm:=(((rs4 s).skip 4).skip 8).num 8 }:Sp)=_
 rw [e1,e2]
theorem readX1 {s:ByteArray} (h:Pt s 1) (x:Sp):readX 1 s x={ x with go:=byteAt s 4 }:=by
 show ({ x with go:=(rs4 s).num 1 }:Sp)=_
 rw [rs4_1 s h.z,nm_byte s 4 (by have:=h.z;omega)]
open Go.ChangeShapes Go.WideShapes Go.ChangeAt Go.RowKit
set_option linter.unusedSimpArgs false
set_option linter.unusedVariables false
structure Tk (b:Nat) (w w':World):Prop where
 os:w'.os=w.os
 tape:w'.tape=w.tape
 output:w'.output=w.output
 size:w.heap.size≤w'.heap.size
 block:∀ g,g < w.heap.size→g≠b→w'.heap[g]? = w.heap[g]?
theorem Tk.refl (b:Nat) (w:World):Tk b w w:=⟨rfl,rfl,rfl,Nat.le_refl _,fun _ _ _=>rfl⟩
theorem Tk.set {b:Nat} {w w':World} (h:Tk b w w') (o:Nat) (v:Value):Tk b w (w'.setCell ⟨b,o,none⟩ v) :=
 ⟨h.os,h.tape,h.output,by simpa [World.setCell] using h.size,fun g hg hb=>(Below.heap_setCell _ _ _ _ hb).trans (h.block g hg hb)⟩
theorem Tk.grow {b:Nat} {w w' w'':World} (h:Tk b w w') (g:Below w'.heap.size w' w''):Tk b w w'' :=
 ⟨g.os.trans h.os,g.tape.trans h.tape,g.output.trans h.output,Nat.le_trans h.size g.size,fun k hk hb=>(g.block k (Nat.lt_of_lt_of_le hk h.size)).trans (h.block k hk hb)⟩
theorem Tk.below {b:Nat} {a w w':World} (h:Tk b w w') (hb:a.heap.size≤b) (g:Below a.heap.size a w):Below a.heap.size a w' :=
 g.trans ⟨h.os,h.tape,h.output,h.size,fun k hk=>by
  by_cases hw:k < w.heap.size
  ·exact h.block k hw (by omega)
  ·have:=g.size;omega⟩
theorem Tk.tsf {b B:Nat} {w w':World} {a:Option Addr} {l:List A} (h:Tk b w w') (hb:b < B) (t:TsF B w a l):TsF B w' a l:=t.keep h.size (fun g hg hw=>h.block g hw (by omega))
theorem Tk.ef {b B:Nat} {w w':World} {x:En} (h:Tk b w w') (hb:b < B) (e:EF B w x):EF B w' x:=⟨h.tsf hb e.a,h.tsf hb e.w,e.na,e.nw⟩
theorem right_aw {a:A} (h:rightB a=true):AW a:=by
 rcases right_cases h with ⟨h1,h2,h3,h4⟩ | ⟨h1,h2,h3,h4⟩ | ⟨h1,h2,h3⟩ | ⟨h1,h2,h3⟩ | ⟨h1,h2,h3,h4⟩
 ·exact ⟨by omega,by omega,by omega,by omega⟩
 ·exact ⟨by omega,by omega,by omega,by omega⟩
 ·exact ⟨by omega,by omega,by omega,by omega⟩
 ·exact ⟨by omega,by omega,by omega,by omega⟩
 ·have hl:0≤leastV a.2.1:=by unfold leastV;split <;> omega
  have hg:=(grV_lt a.2.1).2
  exact ⟨by omega,by omega,by omega,by omega⟩
theorem decL_aw (s:ByteArray):AWs (decL s):=by
 unfold decL
 by_cases h:(decR (s.extract 8 s.size)).2=0
 ·have h1:=(enc_dec _ h).1
  intro a ha
  apply right_aw
  unfold encodeE at h1
  split at h1
  ·next hall =>
   unfold allB at hall
   rw [List.all_eq_true] at hall
   exact hall a ha
  ·cases h1
 ·rw [decR_bad _ h]
  intro a ha
  cases ha
theorem nm_32 (s:ByteArray) (i j:Nat) (h:j≤i + 4):0≤nm s i j∧nm s i j < 4294967296:=by
 have hl:(s.extract i j).data.toList.length≤4:=by
  have:(s.extract i j).size≤4:=by rw [ByteArray.size_extract];omega
  rw [len_size];exact this
 have h:=numOf_lt _ (Nat.le_trans hl (by decide))
 have h2:=Nat.pow_le_pow_right (show 0 < 256 by decide) hl
 have h3:=Int.ofNat_le.mpr h2
 rw [Int.natCast_pow,Int.natCast_pow] at h3
 exact ⟨h.1,Int.lt_of_lt_of_le h.2 h3⟩
def TkPost (b:Nat) (s:ByteArray) (p:Int) (x:En) (w:World) (e:Ending) (w':World):Prop :=
  ∃ (y:En) (A:Int) (I:Bool),e=.returned (.tuple #[.int .i64 A,.bool I])∧Wn w' b y∧(I=true↔partX p (readX p s x.sp)=s)∧(I=true→y.sp=readX p s x.sp∧A=placeX p) ∧
    (y.pri=x.pri∧y.ta=x.ta∧y.tl=x.tl∧y.tc=x.tc)∧(∀ B,b < B→B≤w.heap.size→EF B w x→EF B w' y)∧(AWs x.la→AWs x.lw→AWs y.la∧AWs y.lw)∧(SOk x.sp→SOk y.sp)∧Tk b w w'
theorem sEq (a:ByteArray) (l:List UInt8):(a.toList == l)=decide (a=⟨l.toArray⟩):=by
 by_cases h:a=⟨l.toArray⟩
 ·subst h;simp [ByteArray.toList_eq]
 ·rw [decide_eq_false h,beq_eq_false_iff_ne]
  intro hh
  apply h
  apply ba_ext
  rw [← ByteArray.toList_eq,hh]
theorem take6t (s:ByteArray) (x:En) (b:Nat) (w:World) (h:Pt s 6) (W:Wn w b x) (hb:b < w.heap.size) (hs:s.size≤maxLen) (hz:s.size=8):
    Calls Tryz.prog 94 #[.pointer (some ⟨b,0,none⟩),.string s] w (TkPost b s 6 x w):=by
  have h8:=h.z
  have HN:Hid (∀ w,Calls Tryz.prog 55 #[.string (s.extract 0 2)] w fun x w'=>x=.returned (.int .u64 6)∧w'=w):=(show ∀ w,_ from fun w=>by
    have:=rnm_any s 0 2 w (by omega)
    rwa [h.p] at this)
  have H4:Hid (∀ w,Calls Tryz.prog 55 #[.string (s.extract 4 8)] w fun x w'=>x=.returned (.int .u64 (nm s 4 8))∧w'=w):=(show ∀ w,_ from fun w=>rnm_any s 4 8 w (by omega))
  obtain ⟨n0,n1⟩:=nm_32 s 4 8 (by omega)
  have HI:Hid ((s.size=8∧nm s 4 8≠0)↔partX 6 (readX 6 s x.sp)=s):=take_6 h x.sp
  have HY:Hid (readX 6 s x.sp={ x.sp with met:=nm s 4 8 }):=readX6 h x.sp
  have hz1:((s.size:Int) == 8)=true:=by rw [beq_iff_eq];omega
  obtain ⟨v,hv⟩:∃ v,nm s 4 8=v:=⟨_,rfl⟩
  rw [hv] at H4 n0 n1 HI HY
  clear hv
  obtain ⟨V,hV⟩:∃ V,w.setCell ⟨b,8,none⟩ (.int .i64 v)=V:=⟨_,rfl⟩
  have dV:Wn V b { x with met:=v }:=hV ▸ W.set8 v
  have tV:Tk b w V:=hV ▸ (Tk.refl b w).set 8 _
  have zV:b < V.heap.size:=Nat.lt_of_lt_of_le hb tV.size
  have HW:Hid (w.setCell ⟨b,8,none⟩ (.int .i64 v)=V):=hV
  have q8:=fun n=>(Bn.gr dV.1 zV n).2.2.2.2.2.2.2.2.1
  clear hV h
  obtain ⟨⟨c0,c1,c2,c3,c4,c5,c6,c7,c8,c9⟩,cf⟩:=W
  go_enter Tryz.func94,Tryz.ntmps94
  go_wp2_with fail
  refine (HN.out _).mono ?_
  rintro r w1 ⟨rfl,z1⟩
  obtain rfl:w=w1:=z1.symm
  go_wp2_with fail
  refine (H4.out _).mono ?_
  rintro r w1 ⟨rfl,z1⟩
  obtain rfl:w=w1:=z1.symm
  go_wp2_with fail
  rw [HW.out]
  refine wp_region_grow (by kernel_rfl) (by kernel_rfl) ?_
  repeat (go_big_quiet_step (fail))
  refine wpQuiet_nil ?_
  rintro w3 hw'
  have g3:=gr_elim hw'
  clear hw'
  clear q8 c0 c1 c2 c3 c4 c5 c6 c7 c8 c9 cf
  go_wp2_with fail
  go_ret2
  refine ⟨{ x with met:=v },1,v != 0,rfl,dV.below zV g3,?_,fun _=>⟨HY.out.symm,rfl⟩,⟨rfl,rfl,rfl,rfl⟩,fun B hB _ e=>⟨(tV.grow g3).tsf hB e.a,(tV.grow g3).tsf hB e.w,e.na,e.nw⟩,fun a c=>⟨a,c⟩,fun o=>⟨n0,n1,o.g0,o.g1,o.t0,o.t1,o.k0,o.k1⟩,tV.grow g3⟩
  rw [← HI.out]
  simp [hz]
theorem take6f (s:ByteArray) (x:En) (b:Nat) (w:World) (h:Pt s 6) (W:Wn w b x) (hb:b < w.heap.size) (hs:s.size≤maxLen) (hz:s.size≠8):
    Calls Tryz.prog 94 #[.pointer (some ⟨b,0,none⟩),.string s] w (TkPost b s 6 x w):=by
  have h8:=h.z
  have HN:Hid (∀ w,Calls Tryz.prog 55 #[.string (s.extract 0 2)] w fun x w'=>x=.returned (.int .u64 6)∧w'=w):=(show ∀ w,_ from fun w=>by
    have:=rnm_any s 0 2 w (by omega)
    rwa [h.p] at this)
  have H4:Hid (∀ w,Calls Tryz.prog 55 #[.string (s.extract 4 8)] w fun x w'=>x=.returned (.int .u64 (nm s 4 8))∧w'=w):=(show ∀ w,_ from fun w=>rnm_any s 4 8 w (by omega))
  obtain ⟨n0,n1⟩:=nm_32 s 4 8 (by omega)
  have HI:Hid ((s.size=8∧nm s 4 8≠0)↔partX 6 (readX 6 s x.sp)=s):=take_6 h x.sp
  have HY:Hid (readX 6 s x.sp={ x.sp with met:=nm s 4 8 }):=readX6 h x.sp
  have hz1:((s.size:Int) == 8)=false:=by rw [beq_eq_false_iff_ne];omega
  obtain ⟨v,hv⟩:∃ v,nm s 4 8=v:=⟨_,rfl⟩
  rw [hv] at H4 n0 n1 HI HY
  clear hv
  obtain ⟨V,hV⟩:∃ V,w.setCell ⟨b,8,none⟩ (.int .i64 v)=V:=⟨_,rfl⟩
  have dV:Wn V b { x with met:=v }:=hV ▸ W.set8 v
  have tV:Tk b w V:=hV ▸ (Tk.refl b w).set 8 _
  have zV:b < V.heap.size:=Nat.lt_of_lt_of_le hb tV.size
  have HW:Hid (w.setCell ⟨b,8,none⟩ (.int .i64 v)=V):=hV
  have q8:=fun n=>(Bn.gr dV.1 zV n).2.2.2.2.2.2.2.2.1
  clear hV h
  obtain ⟨⟨c0,c1,c2,c3,c4,c5,c6,c7,c8,c9⟩,cf⟩:=W
  go_enter Tryz.func94,Tryz.ntmps94
  go_wp2_with fail
  refine (HN.out _).mono ?_
  rintro r w1 ⟨rfl,z1⟩
  obtain rfl:w=w1:=z1.symm
  go_wp2_with fail
  refine (H4.out _).mono ?_
  rintro r w1 ⟨rfl,z1⟩
  obtain rfl:w=w1:=z1.symm
  go_wp2_with fail
  rw [HW.out]
  refine wp_region_grow (by kernel_rfl) (by kernel_rfl) ?_
  repeat (go_big_quiet_step (fail))
  refine wpQuiet_nil ?_
  rintro w3 hw'
  have g3:=gr_elim hw'
  clear hw'
  clear q8 c0 c1 c2 c3 c4 c5 c6 c7 c8 c9 cf
  go_wp2_with fail
  go_ret2
  refine ⟨{ x with met:=v },1,false,rfl,dV.below zV g3,?_,(fun i=>absurd i (by decide)),⟨rfl,rfl,rfl,rfl⟩,fun B hB _ e=>⟨(tV.grow g3).tsf hB e.a,(tV.grow g3).tsf hB e.w,e.na,e.nw⟩,fun a c=>⟨a,c⟩,fun o=>⟨n0,n1,o.g0,o.g1,o.t0,o.t1,o.k0,o.k1⟩,tV.grow g3⟩
  rw [← HI.out]
  simp [hz]
theorem take5 (s:ByteArray) (x:En) (b:Nat) (w:World) (h:Pt s 5) (W:Wn w b x) (hb:b < w.heap.size) (hs:s.size≤maxLen):
    Calls Tryz.prog 94 #[.pointer (some ⟨b,0,none⟩),.string s] w (TkPost b s 5 x w):=by
  have h8:=h.z
  have HN:Hid (∀ w,Calls Tryz.prog 55 #[.string (s.extract 0 2)] w fun x w'=>x=.returned (.int .u64 5)∧w'=w):=(show ∀ w,_ from fun w=>by
    have:=rnm_any s 0 2 w (by omega)
    rwa [h.p] at this)
  have HI:Hid (s.extract 2 s.size=⟨#[0,8,0,0,0,0]⟩↔partX 5 (readX 5 s x.sp)=s):=take_5 h x.sp
  obtain ⟨V,hV⟩:∃ V,w.setCell ⟨b,5,none⟩ (.bool true)=V:=⟨_,rfl⟩
  have dV:Wn V b { x with clr:=true }:=hV ▸ W.set5 true
  have tV:Tk b w V:=hV ▸ (Tk.refl b w).set 5 _
  have zV:b < V.heap.size:=Nat.lt_of_lt_of_le hb tV.size
  have HW:Hid (w.setCell ⟨b,5,none⟩ (.bool true)=V):=hV
  have hsl:∀ w,(Instr.slice 9 (.string s) (some (.int .i64 2)) none none).run Tryz.prog w=.ok (.string (s.extract 2 s.size)) w:=fun w=>slice_l s 2 (by omega) (by omega) w
  have hq:=sEq (s.extract 2 s.size) [0,8,0,0,0,0]
  clear hV h
  obtain ⟨⟨c0,c1,c2,c3,c4,c5,c6,c7,c8,c9⟩,cf⟩:=W
  obtain ⟨B,hB⟩:∃ B,decide (s.extract 2 s.size=⟨#[0,8,0,0,0,0]⟩)=B:=⟨_,rfl⟩
  have HBB:Hid (B=true↔s.extract 2 s.size=⟨#[0,8,0,0,0,0]⟩):=(show _↔_ by rw [← hB];simp)
  rw [hB] at hq
  clear hB
  go_enter Tryz.func94,Tryz.ntmps94
  go_wp2_with fail
  refine (HN.out _).mono ?_
  rintro r w1 ⟨rfl,z1⟩
  obtain rfl:w=w1:=z1.symm
  go_wp2_with fail
  rw [HW.out]
  refine wp_region_grow (by kernel_rfl) (by kernel_rfl) ?_
  repeat (go_big_quiet_step (fail))
  refine wpQuiet_nil ?_
  rintro w3 hw'
  have g3:=gr_elim hw'
  clear hw'
  clear c0 c1 c2 c3 c4 c5 c6 c7 c8 c9 cf
  go_wp2_with fail
  go_ret2
  exact ⟨{ x with clr:=true },3,B,rfl,dV.below zV g3,HBB.out.trans HI.out,fun _=>⟨rfl,rfl⟩,⟨rfl,rfl,rfl,rfl⟩,fun B hB _ e=>⟨(tV.grow g3).tsf hB e.a,(tV.grow g3).tsf hB e.w,e.na,e.nw⟩,fun a c=>⟨a,c⟩,fun o=>⟨o.m0,o.m1,o.g0,o.g1,o.t0,o.t1,o.k0,o.k1⟩,tV.grow g3⟩
theorem take4e (s:ByteArray) (x:En) (b:Nat) (w:World) (h:Pt s 4) (W:Wn w b x) (hb:b < w.heap.size) (hs:s.size≤maxLen) (hE:(decR (s.extract 8 s.size)).2≠0):
    Calls Tryz.prog 94 #[.pointer (some ⟨b,0,none⟩),.string s] w (TkPost b s 4 x w):=by
  have h8:=h.z
  have HN:Hid (∀ w,Calls Tryz.prog 55 #[.string (s.extract 0 2)] w fun x w'=>x=.returned (.int .u64 4)∧w'=w):=(show ∀ w,_ from fun w=>by
    have:=rnm_any s 0 2 w (by omega)
    rwa [h.p] at this)
  have HI:Hid (((decR (s.extract 8 s.size)).2=0∧0 < (decL s).length∧s.extract 4 8=gap4)↔partX 4 (readX 4 s x.sp)=s):=take_4 h x.sp
  have HY:Hid (readX 4 s x.sp={ x.sp with la:=decL s }):=(show _=_ from rfl)
  have HA:Hid (AWs (decL s)):=decL_aw s
  have HFew:Hid ((decL s).length≤32):=(show _≤_ from decR_few _)
  have HDc:Hid (Calls Tryz.prog 58 #[.string (s.extract 8 s.size)] w fun r w'=>∃ ad cap E,r=.returned (.tuple #[.slice ad (decL s).length cap,.int .i64 E])∧Hid (E=0↔(decR (s.extract 8 s.size)).2=0)∧Hid (TsF w.heap.size w' ad (decL s))∧Below w.heap.size w w'):=(show Calls _ _ _ _ _ from by
    refine (rdec_any (s.extract 8 s.size) w (by rw [ByteArray.size_extract];omega)).mono ?_
    rintro r w' ⟨ad,cap,E,rfl,h1,h2,h3⟩
    exact ⟨ad,cap,E,rfl,(show _↔_ from h1),(show TsF _ _ _ _ from h2),h3⟩)
  have hq:=sEq (s.extract 4 8) [0,0,0,0]
  have hsl:∀ w,(Instr.slice 9 (.string s) (some (.int .i64 4)) (some (.int .i64 8)) none).run Tryz.prog w=.ok (.string (s.extract 4 8)) w:=fun w=>slice_lh s 4 8 (by omega) (by omega) (by omega) w
  obtain ⟨C,hC⟩:∃ B,decide (s.extract 4 8=⟨#[0,0,0,0]⟩)=B:=⟨_,rfl⟩
  have HBB:Hid (C=true↔s.extract 4 8=gap4):=(show _↔_ by rw [← hC];simp [gap4])
  rw [hC] at hq
  have HE:Hid ((decR (s.extract 8 s.size)).2≠0):=hE
  clear hC h hE
  generalize decL s=DL at *
  generalize (decR (s.extract 8 s.size)).2=RE at *
  go_enter Tryz.func94,Tryz.ntmps94
  go_wp2_with fail
  refine (HN.out _).mono ?_
  rintro r w1 ⟨rfl,z1⟩
  obtain rfl:w=w1:=z1.symm
  go_wp2_with fail
  refine HDc.out.mono ?_
  rintro r w2 ⟨ad,cp,E,rfl,HE2,HTF,g2⟩
  have W2:=W.below hb g2
  obtain ⟨V,hV⟩:∃ V,w2.setCell ⟨b,3,none⟩ (.slice ad DL.length cp)=V:=⟨_,rfl⟩
  have dV:Wn V b { x with aa:=ad,la:=DL,ca:=cp }:=hV ▸ W2.set3 ad DL cp
  have tV:Tk b w V:=hV ▸ ((Tk.refl b w).grow g2).set 3 _
  have zV:b < V.heap.size:=Nat.lt_of_lt_of_le hb tV.size
  have HTV:Hid (TsF w.heap.size V ad DL):=(show TsF _ _ _ _ from hV ▸ HTF.out.keep (by simp [World.setCell]) (fun g hg _=>Below.heap_setCell _ _ _ _ (show g≠b by omega)))
  have HW:Hid (w2.setCell ⟨b,3,none⟩ (.slice ad DL.length cp)=V):=hV
  have hEb:(E == 0)=false:=by rw [beq_eq_false_iff_ne];exact fun h=>HE.out (HE2.out.1 h)
  clear hV HE2
  obtain ⟨⟨c0,c1,c2,c3,c4,c5,c6,c7,c8,c9⟩,cf⟩:=W2
  go_wp2_with fail
  rw [HW.out]
  refine wp_region_grow (by kernel_rfl) (by kernel_rfl) ?_
  repeat (go_big_quiet_step (fail))
  refine wpQuiet_nil ?_
  rintro w3 hw'
  have g3:=gr_elim hw'
  clear hw'
  clear c0 c1 c2 c3 c4 c5 c6 c7 c8 c9 cf
  go_wp2_with fail
  go_ret2
  exact ⟨{ x with aa:=ad,la:=DL,ca:=cp },2,false,rfl,dV.below zV g3,⟨(fun i=>absurd i (by decide)),fun i=>absurd (HI.out.2 i).1 HE.out⟩,(fun i=>absurd i (by decide)),⟨rfl,rfl,rfl,rfl⟩,fun B hB hw e=>⟨((HTV.out.mono hw).below g3),(tV.grow g3).tsf hB e.w,Nat.le_trans HFew.out (by decide),e.nw⟩,fun a c=>⟨HA.out,c⟩,fun o=>⟨o.m0,o.m1,o.g0,o.g1,o.t0,o.t1,o.k0,o.k1⟩,tV.grow g3⟩
theorem take4n (s:ByteArray) (x:En) (b:Nat) (w:World) (h:Pt s 4) (W:Wn w b x) (hb:b < w.heap.size) (hs:s.size≤maxLen) (hE:(decR (s.extract 8 s.size)).2=0) (hl:(decL s).length=0):
    Calls Tryz.prog 94 #[.pointer (some ⟨b,0,none⟩),.string s] w (TkPost b s 4 x w):=by
  have h8:=h.z
  have HN:Hid (∀ w,Calls Tryz.prog 55 #[.string (s.extract 0 2)] w fun x w'=>x=.returned (.int .u64 4)∧w'=w):=(show ∀ w,_ from fun w=>by
    have:=rnm_any s 0 2 w (by omega)
    rwa [h.p] at this)
  have HI:Hid (((decR (s.extract 8 s.size)).2=0∧0 < (decL s).length∧s.extract 4 8=gap4)↔partX 4 (readX 4 s x.sp)=s):=take_4 h x.sp
  have HY:Hid (readX 4 s x.sp={ x.sp with la:=decL s }):=(show _=_ from rfl)
  have HA:Hid (AWs (decL s)):=decL_aw s
  have HFew:Hid ((decL s).length≤32):=(show _≤_ from decR_few _)
  have HDc:Hid (Calls Tryz.prog 58 #[.string (s.extract 8 s.size)] w fun r w'=>∃ ad cap E,r=.returned (.tuple #[.slice ad (decL s).length cap,.int .i64 E])∧Hid (E=0↔(decR (s.extract 8 s.size)).2=0)∧Hid (TsF w.heap.size w' ad (decL s))∧Below w.heap.size w w'):=(show Calls _ _ _ _ _ from by
    refine (rdec_any (s.extract 8 s.size) w (by rw [ByteArray.size_extract];omega)).mono ?_
    rintro r w' ⟨ad,cap,E,rfl,h1,h2,h3⟩
    exact ⟨ad,cap,E,rfl,(show _↔_ from h1),(show TsF _ _ _ _ from h2),h3⟩)
  have hq:=sEq (s.extract 4 8) [0,0,0,0]
  have hsl:∀ w,(Instr.slice 9 (.string s) (some (.int .i64 4)) (some (.int .i64 8)) none).run Tryz.prog w=.ok (.string (s.extract 4 8)) w:=fun w=>slice_lh s 4 8 (by omega) (by omega) (by omega) w
  obtain ⟨C,hC⟩:∃ B,decide (s.extract 4 8=⟨#[0,0,0,0]⟩)=B:=⟨_,rfl⟩
  have HBB:Hid (C=true↔s.extract 4 8=gap4):=(show _↔_ by rw [← hC];simp [gap4])
  rw [hC] at hq
  have HE:Hid ((decR (s.extract 8 s.size)).2=0):=hE
  clear hC h hE
  generalize decL s=DL at *
  generalize (decR (s.extract 8 s.size)).2=RE at *
  have hl0:DL=[]:=List.length_eq_zero_iff.1 hl
  subst hl0
  go_enter Tryz.func94,Tryz.ntmps94
  go_wp2_with fail
  refine (HN.out _).mono ?_
  rintro r w1 ⟨rfl,z1⟩
  obtain rfl:w=w1:=z1.symm
  go_wp2_with fail
  refine HDc.out.mono ?_
  rintro r w2 ⟨ad,cp,E,rfl,HE2,HTF,g2⟩
  have W2:=W.below hb g2
  obtain ⟨V,hV⟩:∃ V,w2.setCell ⟨b,3,none⟩ (.slice ad ([]:List A).length cp)=V:=⟨_,rfl⟩
  have dV:Wn V b { x with aa:=ad,la:=([]:List A),ca:=cp }:=hV ▸ W2.set3 ad ([]:List A) cp
  have tV:Tk b w V:=hV ▸ ((Tk.refl b w).grow g2).set 3 _
  have zV:b < V.heap.size:=Nat.lt_of_lt_of_le hb tV.size
  have HTV:Hid (TsF w.heap.size V ad ([]:List A)):=(show TsF _ _ _ _ from hV ▸ HTF.out.keep (by simp [World.setCell]) (fun g hg _=>Below.heap_setCell _ _ _ _ (show g≠b by omega)))
  have HW:Hid (w2.setCell ⟨b,3,none⟩ (.slice ad 0 cp)=V):=hV
  have hEb:(E == 0)=true:=by rw [beq_iff_eq];exact HE2.out.2 HE.out
  clear hV HE2
  obtain ⟨⟨c0,c1,c2,c3,c4,c5,c6,c7,c8,c9⟩,cf⟩:=W2
  go_wp2_with fail
  rw [HW.out]
  refine wp_region_grow (by kernel_rfl) (by kernel_rfl) ?_
  repeat (go_big_quiet_step (fail))
  refine wpQuiet_nil ?_
  rintro w3 hw'
  have g3:=gr_elim hw'
  clear hw'
  clear c0 c1 c2 c3 c4 c5 c6 c7 c8 c9 cf
  go_wp2_with fail
  go_ret2
  exact ⟨{ x with aa:=ad,la:=[],ca:=cp },2,false,rfl,dV.below zV g3,⟨(fun i=>absurd i (by decide)),fun i=>absurd (HI.out.2 i).2.1 (by simp)⟩,(fun i=>absurd i (by decide)),⟨rfl,rfl,rfl,rfl⟩,fun B hB hw e=>⟨((HTV.out.mono hw).below g3),(tV.grow g3).tsf hB e.w,Nat.le_trans HFew.out (by decide),e.nw⟩,fun a c=>⟨HA.out,c⟩,fun o=>⟨o.m0,o.m1,o.g0,o.g1,o.t0,o.t1,o.k0,o.k1⟩,tV.grow g3⟩
theorem take4g (s:ByteArray) (x:En) (b:Nat) (w:World) (h:Pt s 4) (W:Wn w b x) (hb:b < w.heap.size) (hs:s.size≤maxLen) (hE:(decR (s.extract 8 s.size)).2=0) (hl:0 < (decL s).length):
    Calls Tryz.prog 94 #[.pointer (some ⟨b,0,none⟩),.string s] w (TkPost b s 4 x w):=by
  have h8:=h.z
  have HN:Hid (∀ w,Calls Tryz.prog 55 #[.string (s.extract 0 2)] w fun x w'=>x=.returned (.int .u64 4)∧w'=w):=(show ∀ w,_ from fun w=>by
    have:=rnm_any s 0 2 w (by omega)
    rwa [h.p] at this)
  have HI:Hid (((decR (s.extract 8 s.size)).2=0∧0 < (decL s).length∧s.extract 4 8=gap4)↔partX 4 (readX 4 s x.sp)=s):=take_4 h x.sp
  have HY:Hid (readX 4 s x.sp={ x.sp with la:=decL s }):=(show _=_ from rfl)
  have HA:Hid (AWs (decL s)):=decL_aw s
  have HFew:Hid ((decL s).length≤32):=(show _≤_ from decR_few _)
  have HDc:Hid (Calls Tryz.prog 58 #[.string (s.extract 8 s.size)] w fun r w'=>∃ ad cap E,r=.returned (.tuple #[.slice ad (decL s).length cap,.int .i64 E])∧Hid (E=0↔(decR (s.extract 8 s.size)).2=0)∧Hid (TsF w.heap.size w' ad (decL s))∧Below w.heap.size w w'):=(show Calls _ _ _ _ _ from by
    refine (rdec_any (s.extract 8 s.size) w (by rw [ByteArray.size_extract];omega)).mono ?_
    rintro r w' ⟨ad,cap,E,rfl,h1,h2,h3⟩
    exact ⟨ad,cap,E,rfl,(show _↔_ from h1),(show TsF _ _ _ _ from h2),h3⟩)
  have hq:=sEq (s.extract 4 8) [0,0,0,0]
  have hsl:∀ w,(Instr.slice 9 (.string s) (some (.int .i64 4)) (some (.int .i64 8)) none).run Tryz.prog w=.ok (.string (s.extract 4 8)) w:=fun w=>slice_lh s 4 8 (by omega) (by omega) (by omega) w
  obtain ⟨C,hC⟩:∃ B,decide (s.extract 4 8=⟨#[0,0,0,0]⟩)=B:=⟨_,rfl⟩
  have HBB:Hid (C=true↔s.extract 4 8=gap4):=(show _↔_ by rw [← hC];simp [gap4])
  rw [hC] at hq
  have HE:Hid ((decR (s.extract 8 s.size)).2=0):=hE
  clear hC h hE
  generalize decL s=DL at *
  generalize (decR (s.extract 8 s.size)).2=RE at *
  have hl1:((0:Int) < (DL.length:Int)):=by omega
  go_enter Tryz.func94,Tryz.ntmps94
  go_wp2_with fail
  refine (HN.out _).mono ?_
  rintro r w1 ⟨rfl,z1⟩
  obtain rfl:w=w1:=z1.symm
  go_wp2_with fail
  refine HDc.out.mono ?_
  rintro r w2 ⟨ad,cp,E,rfl,HE2,HTF,g2⟩
  have W2:=W.below hb g2
  obtain ⟨V,hV⟩:∃ V,w2.setCell ⟨b,3,none⟩ (.slice ad DL.length cp)=V:=⟨_,rfl⟩
  have dV:Wn V b { x with aa:=ad,la:=DL,ca:=cp }:=hV ▸ W2.set3 ad DL cp
  have tV:Tk b w V:=hV ▸ ((Tk.refl b w).grow g2).set 3 _
  have zV:b < V.heap.size:=Nat.lt_of_lt_of_le hb tV.size
  have HTV:Hid (TsF w.heap.size V ad DL):=(show TsF _ _ _ _ from hV ▸ HTF.out.keep (by simp [World.setCell]) (fun g hg _=>Below.heap_setCell _ _ _ _ (show g≠b by omega)))
  have HW:Hid (w2.setCell ⟨b,3,none⟩ (.slice ad DL.length cp)=V):=hV
  have hEb:(E == 0)=true:=by rw [beq_iff_eq];exact HE2.out.2 HE.out
  clear hV HE2
  obtain ⟨⟨c0,c1,c2,c3,c4,c5,c6,c7,c8,c9⟩,cf⟩:=W2
  go_wp2_with fail
  rw [HW.out]
  refine wp_region_grow (by kernel_rfl) (by kernel_rfl) ?_
  repeat (go_big_quiet_step (fail))
  refine wpQuiet_nil ?_
  rintro w3 hw'
  have g3:=gr_elim hw'
  clear hw'
  clear c0 c1 c2 c3 c4 c5 c6 c7 c8 c9 cf
  go_wp2_with fail
  go_ret2
  exact ⟨{ x with aa:=ad,la:=DL,ca:=cp },2,C,rfl,dV.below zV g3,⟨fun i=>HI.out.1 ⟨HE.out,hl,HBB.out.1 i⟩,fun i=>HBB.out.2 (HI.out.2 i).2.2⟩,fun _=>⟨HY.out.symm,rfl⟩,⟨rfl,rfl,rfl,rfl⟩,fun B hB hw e=>⟨((HTV.out.mono hw).below g3),(tV.grow g3).tsf hB e.w,Nat.le_trans HFew.out (by decide),e.nw⟩,fun a c=>⟨HA.out,c⟩,fun o=>⟨o.m0,o.m1,o.g0,o.g1,o.t0,o.t1,o.k0,o.k1⟩,tV.grow g3⟩
theorem take3e (s:ByteArray) (x:En) (b:Nat) (w:World) (h:Pt s 3) (W:Wn w b x) (hb:b < w.heap.size) (hs:s.size≤maxLen) (hE:(decR (s.extract 8 s.size)).2≠0):
    Calls Tryz.prog 94 #[.pointer (some ⟨b,0,none⟩),.string s] w (TkPost b s 3 x w):=by
  have h8:=h.z
  have HN:Hid (∀ w,Calls Tryz.prog 55 #[.string (s.extract 0 2)] w fun x w'=>x=.returned (.int .u64 3)∧w'=w):=(show ∀ w,_ from fun w=>by
    have:=rnm_any s 0 2 w (by omega)
    rwa [h.p] at this)
  have HI:Hid (((decR (s.extract 8 s.size)).2=0∧0 < (decL s).length∧s.extract 4 8=gap4)↔partX 3 (readX 3 s x.sp)=s):=take_3 h x.sp
  have HY:Hid (readX 3 s x.sp={ x.sp with lw:=decL s }):=(show _=_ from rfl)
  have HA:Hid (AWs (decL s)):=decL_aw s
  have HFew:Hid ((decL s).length≤32):=(show _≤_ from decR_few _)
  have HDc:Hid (Calls Tryz.prog 58 #[.string (s.extract 8 s.size)] w fun r w'=>∃ ad cap E,r=.returned (.tuple #[.slice ad (decL s).length cap,.int .i64 E])∧Hid (E=0↔(decR (s.extract 8 s.size)).2=0)∧Hid (TsF w.heap.size w' ad (decL s))∧Below w.heap.size w w'):=(show Calls _ _ _ _ _ from by
    refine (rdec_any (s.extract 8 s.size) w (by rw [ByteArray.size_extract];omega)).mono ?_
    rintro r w' ⟨ad,cap,E,rfl,h1,h2,h3⟩
    exact ⟨ad,cap,E,rfl,(show _↔_ from h1),(show TsF _ _ _ _ from h2),h3⟩)
  have hq:=sEq (s.extract 4 8) [0,0,0,0]
  have hsl:∀ w,(Instr.slice 9 (.string s) (some (.int .i64 4)) (some (.int .i64 8)) none).run Tryz.prog w=.ok (.string (s.extract 4 8)) w:=fun w=>slice_lh s 4 8 (by omega) (by omega) (by omega) w
  obtain ⟨C,hC⟩:∃ B,decide (s.extract 4 8=⟨#[0,0,0,0]⟩)=B:=⟨_,rfl⟩
  have HBB:Hid (C=true↔s.extract 4 8=gap4):=(show _↔_ by rw [← hC];simp [gap4])
  rw [hC] at hq
  have HE:Hid ((decR (s.extract 8 s.size)).2≠0):=hE
  clear hC h hE
  generalize decL s=DL at *
  generalize (decR (s.extract 8 s.size)).2=RE at *
  go_enter Tryz.func94,Tryz.ntmps94
  go_wp2_with fail
  refine (HN.out _).mono ?_
  rintro r w1 ⟨rfl,z1⟩
  obtain rfl:w=w1:=z1.symm
  go_wp2_with fail
  refine HDc.out.mono ?_
  rintro r w2 ⟨ad,cp,E,rfl,HE2,HTF,g2⟩
  have W2:=W.below hb g2
  obtain ⟨V,hV⟩:∃ V,w2.setCell ⟨b,4,none⟩ (.slice ad DL.length cp)=V:=⟨_,rfl⟩
  have dV:Wn V b { x with aw:=ad,lw:=DL,cw:=cp }:=hV ▸ W2.set4 ad DL cp
  have tV:Tk b w V:=hV ▸ ((Tk.refl b w).grow g2).set 4 _
  have zV:b < V.heap.size:=Nat.lt_of_lt_of_le hb tV.size
  have HTV:Hid (TsF w.heap.size V ad DL):=(show TsF _ _ _ _ from hV ▸ HTF.out.keep (by simp [World.setCell]) (fun g hg _=>Below.heap_setCell _ _ _ _ (show g≠b by omega)))
  have HW:Hid (w2.setCell ⟨b,4,none⟩ (.slice ad DL.length cp)=V):=hV
  have hEb:(E == 0)=false:=by rw [beq_eq_false_iff_ne];exact fun h=>HE.out (HE2.out.1 h)
  clear hV HE2
  obtain ⟨⟨c0,c1,c2,c3,c4,c5,c6,c7,c8,c9⟩,cf⟩:=W2
  go_wp2_with fail
  rw [HW.out]
  refine wp_region_grow (by kernel_rfl) (by kernel_rfl) ?_
  repeat (go_big_quiet_step (fail))
  refine wpQuiet_nil ?_
  rintro w3 hw'
  have g3:=gr_elim hw'
  clear hw'
  clear c0 c1 c2 c3 c4 c5 c6 c7 c8 c9 cf
  go_wp2_with fail
  go_ret2
  exact ⟨{ x with aw:=ad,lw:=DL,cw:=cp },4,false,rfl,dV.below zV g3,⟨(fun i=>absurd i (by decide)),fun i=>absurd (HI.out.2 i).1 HE.out⟩,(fun i=>absurd i (by decide)),⟨rfl,rfl,rfl,rfl⟩,fun B hB hw e=>⟨(tV.grow g3).tsf hB e.a,((HTV.out.mono hw).below g3),e.na,Nat.le_trans HFew.out (by decide)⟩,fun a c=>⟨a,HA.out⟩,fun o=>⟨o.m0,o.m1,o.g0,o.g1,o.t0,o.t1,o.k0,o.k1⟩,tV.grow g3⟩
theorem take3n (s:ByteArray) (x:En) (b:Nat) (w:World) (h:Pt s 3) (W:Wn w b x) (hb:b < w.heap.size) (hs:s.size≤maxLen) (hE:(decR (s.extract 8 s.size)).2=0) (hl:(decL s).length=0):
    Calls Tryz.prog 94 #[.pointer (some ⟨b,0,none⟩),.string s] w (TkPost b s 3 x w):=by
  have h8:=h.z
  have HN:Hid (∀ w,Calls Tryz.prog 55 #[.string (s.extract 0 2)] w fun x w'=>x=.returned (.int .u64 3)∧w'=w):=(show ∀ w,_ from fun w=>by
    have:=rnm_any s 0 2 w (by omega)
    rwa [h.p] at this)
  have HI:Hid (((decR (s.extract 8 s.size)).2=0∧0 < (decL s).length∧s.extract 4 8=gap4)↔partX 3 (readX 3 s x.sp)=s):=take_3 h x.sp
  have HY:Hid (readX 3 s x.sp={ x.sp with lw:=decL s }):=(show _=_ from rfl)
  have HA:Hid (AWs (decL s)):=decL_aw s
  have HFew:Hid ((decL s).length≤32):=(show _≤_ from decR_few _)
  have HDc:Hid (Calls Tryz.prog 58 #[.string (s.extract 8 s.size)] w fun r w'=>∃ ad cap E,r=.returned (.tuple #[.slice ad (decL s).length cap,.int .i64 E])∧Hid (E=0↔(decR (s.extract 8 s.size)).2=0)∧Hid (TsF w.heap.size w' ad (decL s))∧Below w.heap.size w w'):=(show Calls _ _ _ _ _ from by
    refine (rdec_any (s.extract 8 s.size) w (by rw [ByteArray.size_extract];omega)).mono ?_
    rintro r w' ⟨ad,cap,E,rfl,h1,h2,h3⟩
    exact ⟨ad,cap,E,rfl,(show _↔_ from h1),(show TsF _ _ _ _ from h2),h3⟩)
  have hq:=sEq (s.extract 4 8) [0,0,0,0]
  have hsl:∀ w,(Instr.slice 9 (.string s) (some (.int .i64 4)) (some (.int .i64 8)) none).run Tryz.prog w=.ok (.string (s.extract 4 8)) w:=fun w=>slice_lh s 4 8 (by omega) (by omega) (by omega) w
  obtain ⟨C,hC⟩:∃ B,decide (s.extract 4 8=⟨#[0,0,0,0]⟩)=B:=⟨_,rfl⟩
  have HBB:Hid (C=true↔s.extract 4 8=gap4):=(show _↔_ by rw [← hC];simp [gap4])
  rw [hC] at hq
  have HE:Hid ((decR (s.extract 8 s.size)).2=0):=hE
  clear hC h hE
  generalize decL s=DL at *
  generalize (decR (s.extract 8 s.size)).2=RE at *
  have hl0:DL=[]:=List.length_eq_zero_iff.1 hl
  subst hl0
  go_enter Tryz.func94,Tryz.ntmps94
  go_wp2_with fail
  refine (HN.out _).mono ?_
  rintro r w1 ⟨rfl,z1⟩
  obtain rfl:w=w1:=z1.symm
  go_wp2_with fail
  refine HDc.out.mono ?_
  rintro r w2 ⟨ad,cp,E,rfl,HE2,HTF,g2⟩
  have W2:=W.below hb g2
  obtain ⟨V,hV⟩:∃ V,w2.setCell ⟨b,4,none⟩ (.slice ad ([]:List A).length cp)=V:=⟨_,rfl⟩
  have dV:Wn V b { x with aw:=ad,lw:=([]:List A),cw:=cp }:=hV ▸ W2.set4 ad ([]:List A) cp
  have tV:Tk b w V:=hV ▸ ((Tk.refl b w).grow g2).set 4 _
  have zV:b < V.heap.size:=Nat.lt_of_lt_of_le hb tV.size
  have HTV:Hid (TsF w.heap.size V ad ([]:List A)):=(show TsF _ _ _ _ from hV ▸ HTF.out.keep (by simp [World.setCell]) (fun g hg _=>Below.heap_setCell _ _ _ _ (show g≠b by omega)))
  have HW:Hid (w2.setCell ⟨b,4,none⟩ (.slice ad 0 cp)=V):=hV
  have hEb:(E == 0)=true:=by rw [beq_iff_eq];exact HE2.out.2 HE.out
  clear hV HE2
  obtain ⟨⟨c0,c1,c2,c3,c4,c5,c6,c7,c8,c9⟩,cf⟩:=W2
  go_wp2_with fail
  rw [HW.out]
  refine wp_region_grow (by kernel_rfl) (by kernel_rfl) ?_
  repeat (go_big_quiet_step (fail))
  refine wpQuiet_nil ?_
  rintro w3 hw'
  have g3:=gr_elim hw'
  clear hw'
  clear c0 c1 c2 c3 c4 c5 c6 c7 c8 c9 cf
  go_wp2_with fail
  go_ret2
  exact ⟨{ x with aw:=ad,lw:=[],cw:=cp },4,false,rfl,dV.below zV g3,⟨(fun i=>absurd i (by decide)),fun i=>absurd (HI.out.2 i).2.1 (by simp)⟩,(fun i=>absurd i (by decide)),⟨rfl,rfl,rfl,rfl⟩,fun B hB hw e=>⟨(tV.grow g3).tsf hB e.a,((HTV.out.mono hw).below g3),e.na,Nat.le_trans HFew.out (by decide)⟩,fun a c=>⟨a,HA.out⟩,fun o=>⟨o.m0,o.m1,o.g0,o.g1,o.t0,o.t1,o.k0,o.k1⟩,tV.grow g3⟩
theorem take3g (s:ByteArray) (x:En) (b:Nat) (w:World) (h:Pt s 3) (W:Wn w b x) (hb:b < w.heap.size) (hs:s.size≤maxLen) (hE:(decR (s.extract 8 s.size)).2=0) (hl:0 < (decL s).length):
    Calls Tryz.prog 94 #[.pointer (some ⟨b,0,none⟩),.string s] w (TkPost b s 3 x w):=by
  have h8:=h.z
  have HN:Hid (∀ w,Calls Tryz.prog 55 #[.string (s.extract 0 2)] w fun x w'=>x=.returned (.int .u64 3)∧w'=w):=(show ∀ w,_ from fun w=>by
    have:=rnm_any s 0 2 w (by omega)
    rwa [h.p] at this)
  have HI:Hid (((decR (s.extract 8 s.size)).2=0∧0 < (decL s).length∧s.extract 4 8=gap4)↔partX 3 (readX 3 s x.sp)=s):=take_3 h x.sp
  have HY:Hid (readX 3 s x.sp={ x.sp with lw:=decL s }):=(show _=_ from rfl)
  have HA:Hid (AWs (decL s)):=decL_aw s
  have HFew:Hid ((decL s).length≤32):=(show _≤_ from decR_few _)
  have HDc:Hid (Calls Tryz.prog 58 #[.string (s.extract 8 s.size)] w fun r w'=>∃ ad cap E,r=.returned (.tuple #[.slice ad (decL s).length cap,.int .i64 E])∧Hid (E=0↔(decR (s.extract 8 s.size)).2=0)∧Hid (TsF w.heap.size w' ad (decL s))∧Below w.heap.size w w'):=(show Calls _ _ _ _ _ from by
    refine (rdec_any (s.extract 8 s.size) w (by rw [ByteArray.size_extract];omega)).mono ?_
    rintro r w' ⟨ad,cap,E,rfl,h1,h2,h3⟩
    exact ⟨ad,cap,E,rfl,(show _↔_ from h1),(show TsF _ _ _ _ from h2),h3⟩)
  have hq:=sEq (s.extract 4 8) [0,0,0,0]
  have hsl:∀ w,(Instr.slice 9 (.string s) (some (.int .i64 4)) (some (.int .i64 8)) none).run Tryz.prog w=.ok (.string (s.extract 4 8)) w:=fun w=>slice_lh s 4 8 (by omega) (by omega) (by omega) w
  obtain ⟨C,hC⟩:∃ B,decide (s.extract 4 8=⟨#[0,0,0,0]⟩)=B:=⟨_,rfl⟩
  have HBB:Hid (C=true↔s.extract 4 8=gap4):=(show _↔_ by rw [← hC];simp [gap4])
  rw [hC] at hq
  have HE:Hid ((decR (s.extract 8 s.size)).2=0):=hE
  clear hC h hE
  generalize decL s=DL at *
  generalize (decR (s.extract 8 s.size)).2=RE at *
  have hl1:((0:Int) < (DL.length:Int)):=by omega
  go_enter Tryz.func94,Tryz.ntmps94
  go_wp2_with fail
  refine (HN.out _).mono ?_
  rintro r w1 ⟨rfl,z1⟩
  obtain rfl:w=w1:=z1.symm
  go_wp2_with fail
  refine HDc.out.mono ?_
  rintro r w2 ⟨ad,cp,E,rfl,HE2,HTF,g2⟩
  have W2:=W.below hb g2
  obtain ⟨V,hV⟩:∃ V,w2.setCell ⟨b,4,none⟩ (.slice ad DL.length cp)=V:=⟨_,rfl⟩
  have dV:Wn V b { x with aw:=ad,lw:=DL,cw:=cp }:=hV ▸ W2.set4 ad DL cp
  have tV:Tk b w V:=hV ▸ ((Tk.refl b w).grow g2).set 4 _
  have zV:b < V.heap.size:=Nat.lt_of_lt_of_le hb tV.size
  have HTV:Hid (TsF w.heap.size V ad DL):=(show TsF _ _ _ _ from hV ▸ HTF.out.keep (by simp [World.setCell]) (fun g hg _=>Below.heap_setCell _ _ _ _ (show g≠b by omega)))
  have HW:Hid (w2.setCell ⟨b,4,none⟩ (.slice ad DL.length cp)=V):=hV
  have hEb:(E == 0)=true:=by rw [beq_iff_eq];exact HE2.out.2 HE.out
  clear hV HE2
  obtain ⟨⟨c0,c1,c2,c3,c4,c5,c6,c7,c8,c9⟩,cf⟩:=W2
  go_wp2_with fail
  rw [HW.out]
  refine wp_region_grow (by kernel_rfl) (by kernel_rfl) ?_
  repeat (go_big_quiet_step (fail))
  refine wpQuiet_nil ?_
  rintro w3 hw'
  have g3:=gr_elim hw'
  clear hw'
  clear c0 c1 c2 c3 c4 c5 c6 c7 c8 c9 cf
  go_wp2_with fail
  go_ret2
  exact ⟨{ x with aw:=ad,lw:=DL,cw:=cp },4,C,rfl,dV.below zV g3,⟨fun i=>HI.out.1 ⟨HE.out,hl,HBB.out.1 i⟩,fun i=>HBB.out.2 (HI.out.2 i).2.2⟩,fun _=>⟨HY.out.symm,rfl⟩,⟨rfl,rfl,rfl,rfl⟩,fun B hB hw e=>⟨(tV.grow g3).tsf hB e.a,((HTV.out.mono hw).below g3),e.na,Nat.le_trans HFew.out (by decide)⟩,fun a c=>⟨a,HA.out⟩,fun o=>⟨o.m0,o.m1,o.g0,o.g1,o.t0,o.t1,o.k0,o.k1⟩,tV.grow g3⟩
theorem take2n (s:ByteArray) (x:En) (b:Nat) (w:World) (h:Pt s 2) (W:Wn w b x) (hb:b < w.heap.size) (hs:s.size≤maxLen) (hz:s.size≠24):
    Calls Tryz.prog 94 #[.pointer (some ⟨b,0,none⟩),.string s] w (TkPost b s 2 x w):=by
  have h8:=h.z
  have HN:Hid (∀ w,Calls Tryz.prog 55 #[.string (s.extract 0 2)] w fun x w'=>x=.returned (.int .u64 2)∧w'=w):=(show ∀ w,_ from fun w=>by
    have:=rnm_any s 0 2 w (by omega)
    rwa [h.p] at this)
  have HI:Hid ((s.size=24∧s.extract 4 8=gap4∧nm s 16 24≠0)↔partX 2 (readX 2 s x.sp)=s):=take_2 h x.sp
  have hz1:((s.size:Int) != 24)=true:=by rw [bne_iff_ne];omega
  clear h
  go_enter Tryz.func94,Tryz.ntmps94
  go_wp2_with fail
  refine (HN.out _).mono ?_
  rintro r w1 ⟨rfl,z1⟩
  obtain rfl:w=w1:=z1.symm
  go_wp2_with fail
  go_ret2
  exact ⟨x,0,false,rfl,W,⟨(fun i=>absurd i (by decide)),fun i=>absurd (HI.out.2 i).1 hz⟩,(fun i=>absurd i (by decide)),⟨rfl,rfl,rfl,rfl⟩,fun B hB _ e=>e,fun a c=>⟨a,c⟩,fun o=>o,Tk.refl b w⟩
theorem take2t (s:ByteArray) (x:En) (b:Nat) (w:World) (h:Pt s 2) (W:Wn w b x) (hb:b < w.heap.size) (hs:s.size≤maxLen) (hz:s.size=24) (hg:s.extract 4 8=gap4):
    Calls Tryz.prog 94 #[.pointer (some ⟨b,0,none⟩),.string s] w (TkPost b s 2 x w):=by
  have h8:=h.z
  have HN:Hid (∀ w,Calls Tryz.prog 55 #[.string (s.extract 0 2)] w fun x w'=>x=.returned (.int .u64 2)∧w'=w):=(show ∀ w,_ from fun w=>by
    have:=rnm_any s 0 2 w (by omega)
    rwa [h.p] at this)
  have HI:Hid ((s.size=24∧s.extract 4 8=gap4∧nm s 16 24≠0)↔partX 2 (readX 2 s x.sp)=s):=take_2 h x.sp
  have HY:Hid (readX 2 s x.sp={ x.sp with mt:=nm s 8 16,mm:=nm s 16 24 }):=readX2 hz x.sp
  have hz1:((s.size:Int) != 24)=false:=by rw [bne_eq_false_iff_eq];omega
  have H8:Hid (∀ w,Calls Tryz.prog 55 #[.string (s.extract 8 16)] w fun x w'=>x=.returned (.int .u64 (nm s 8 16))∧w'=w):=(show ∀ w,_ from fun w=>rnm_any s 8 16 w (by omega))
  have H16:Hid (∀ w,Calls Tryz.prog 55 #[.string (s.extract 16 24)] w fun x w'=>x=.returned (.int .u64 (nm s 16 24))∧w'=w):=(show ∀ w,_ from fun w=>rnm_any s 16 24 w (by omega))
  obtain ⟨n0,n1⟩:=nm_lt s 8 16 (by omega)
  obtain ⟨m0,m1⟩:=nm_lt s 16 24 (by omega)
  have hsl:∀ w,(Instr.slice 9 (.string s) (some (.int .i64 4)) (some (.int .i64 8)) none).run Tryz.prog w=.ok (.string (s.extract 4 8)) w:=fun w=>slice_lh s 4 8 (by omega) (by omega) (by omega) w
  have hq:((s.extract 4 8).toList == [0,0,0,0])=true:=by rw [sEq];exact decide_eq_true hg
  obtain ⟨v,hv⟩:∃ v,nm s 8 16=v:=⟨_,rfl⟩
  obtain ⟨u,hu⟩:∃ u,nm s 16 24=u:=⟨_,rfl⟩
  rw [hv] at H8 n0 n1 HY
  rw [hu] at H16 m0 m1 HI HY
  clear hv hu
  obtain ⟨V1,hV1⟩:∃ V,w.setCell ⟨b,6,none⟩ (.int .u64 v)=V:=⟨_,rfl⟩
  have d1:Wn V1 b { x with mt:=v }:=hV1 ▸ W.set6 v
  have t1:Tk b w V1:=hV1 ▸ (Tk.refl b w).set 6 _
  have HW1:Hid (w.setCell ⟨b,6,none⟩ (.int .u64 v)=V1):=hV1
  obtain ⟨V,hV⟩:∃ V,V1.setCell ⟨b,7,none⟩ (.int .u64 u)=V:=⟨_,rfl⟩
  have dV:Wn V b { x with mt:=v,mm:=u }:=hV ▸ d1.set7 u
  have tV:Tk b w V:=hV ▸ t1.set 7 _
  have zV:b < V.heap.size:=Nat.lt_of_lt_of_le hb tV.size
  have HW:Hid (V1.setCell ⟨b,7,none⟩ (.int .u64 u)=V):=hV
  have q7:=fun n=>(Bn.gr dV.1 zV n).2.2.2.2.2.2.2.1
  have HZ:Hid (s.size=24):=hz
  have h24:24≤s.size:=by omega
  have HG:Hid (s.extract 4 8=gap4):=hg
  clear hV hV1 h t1 hz hg
  obtain ⟨⟨c0,c1,c2,c3,c4,c5,c6,c7,c8,c9⟩,cf⟩:=W
  go_enter Tryz.func94,Tryz.ntmps94
  go_wp2_with fail
  refine (HN.out _).mono ?_
  rintro r w1 ⟨rfl,z1⟩
  obtain rfl:w=w1:=z1.symm
  go_wp2_with fail
  refine (H8.out _).mono ?_
  rintro r w1 ⟨rfl,z1⟩
  obtain rfl:w=w1:=z1.symm
  obtain ⟨⟨e0,e1,e2,e3,e4,e5,e6,e7,e8,e9⟩,ef⟩:=d1
  have HW1':=HW1.out
  go_wp2_with fail
  clear c0 c1 c2 c3 c4 c5 c6 c7 c8 c9 cf HW1'
  refine (H16.out _).mono ?_
  rintro r w1 ⟨rfl,z1⟩
  obtain rfl:V1=w1:=z1.symm
  go_wp2_with fail
  rw [HW.out]
  refine wp_region_grow (by kernel_rfl) (by kernel_rfl) ?_
  repeat (go_big_quiet_step (fail))
  refine wpQuiet_nil ?_
  rintro w3 hw'
  have g3:=gr_elim hw'
  clear hw'
  clear q7 e0 e1 e2 e3 e4 e5 e6 e7 e8 e9 ef
  go_wp2_with fail
  go_ret2
  refine ⟨{ x with mt:=v,mm:=u },5,u != 0,rfl,dV.below zV g3,?_,fun _=>⟨HY.out.symm,rfl⟩,⟨rfl,rfl,rfl,rfl⟩,fun B hB _ e=>⟨(tV.grow g3).tsf hB e.a,(tV.grow g3).tsf hB e.w,e.na,e.nw⟩,fun a c=>⟨a,c⟩,fun o=>⟨o.m0,o.m1,o.g0,o.g1,n0,n1,m0,m1⟩,tV.grow g3⟩
  rw [← HI.out]
  exact ⟨fun i=>⟨HZ.out,HG.out,by simpa using i⟩,fun i=>by simpa using i.2.2⟩
theorem take2f (s:ByteArray) (x:En) (b:Nat) (w:World) (h:Pt s 2) (W:Wn w b x) (hb:b < w.heap.size) (hs:s.size≤maxLen) (hz:s.size=24) (hg:s.extract 4 8≠gap4):
    Calls Tryz.prog 94 #[.pointer (some ⟨b,0,none⟩),.string s] w (TkPost b s 2 x w):=by
  have h8:=h.z
  have HN:Hid (∀ w,Calls Tryz.prog 55 #[.string (s.extract 0 2)] w fun x w'=>x=.returned (.int .u64 2)∧w'=w):=(show ∀ w,_ from fun w=>by
    have:=rnm_any s 0 2 w (by omega)
    rwa [h.p] at this)
  have HI:Hid ((s.size=24∧s.extract 4 8=gap4∧nm s 16 24≠0)↔partX 2 (readX 2 s x.sp)=s):=take_2 h x.sp
  have HY:Hid (readX 2 s x.sp={ x.sp with mt:=nm s 8 16,mm:=nm s 16 24 }):=readX2 hz x.sp
  have hz1:((s.size:Int) != 24)=false:=by rw [bne_eq_false_iff_eq];omega
  have H8:Hid (∀ w,Calls Tryz.prog 55 #[.string (s.extract 8 16)] w fun x w'=>x=.returned (.int .u64 (nm s 8 16))∧w'=w):=(show ∀ w,_ from fun w=>rnm_any s 8 16 w (by omega))
  have H16:Hid (∀ w,Calls Tryz.prog 55 #[.string (s.extract 16 24)] w fun x w'=>x=.returned (.int .u64 (nm s 16 24))∧w'=w):=(show ∀ w,_ from fun w=>rnm_any s 16 24 w (by omega))
  obtain ⟨n0,n1⟩:=nm_lt s 8 16 (by omega)
  obtain ⟨m0,m1⟩:=nm_lt s 16 24 (by omega)
  have hsl:∀ w,(Instr.slice 9 (.string s) (some (.int .i64 4)) (some (.int .i64 8)) none).run Tryz.prog w=.ok (.string (s.extract 4 8)) w:=fun w=>slice_lh s 4 8 (by omega) (by omega) (by omega) w
  have hq:((s.extract 4 8).toList == [0,0,0,0])=false:=by rw [sEq];exact decide_eq_false hg
  obtain ⟨v,hv⟩:∃ v,nm s 8 16=v:=⟨_,rfl⟩
  obtain ⟨u,hu⟩:∃ u,nm s 16 24=u:=⟨_,rfl⟩
  rw [hv] at H8 n0 n1 HY
  rw [hu] at H16 m0 m1 HI HY
  clear hv hu
  obtain ⟨V1,hV1⟩:∃ V,w.setCell ⟨b,6,none⟩ (.int .u64 v)=V:=⟨_,rfl⟩
  have d1:Wn V1 b { x with mt:=v }:=hV1 ▸ W.set6 v
  have t1:Tk b w V1:=hV1 ▸ (Tk.refl b w).set 6 _
  have HW1:Hid (w.setCell ⟨b,6,none⟩ (.int .u64 v)=V1):=hV1
  obtain ⟨V,hV⟩:∃ V,V1.setCell ⟨b,7,none⟩ (.int .u64 u)=V:=⟨_,rfl⟩
  have dV:Wn V b { x with mt:=v,mm:=u }:=hV ▸ d1.set7 u
  have tV:Tk b w V:=hV ▸ t1.set 7 _
  have zV:b < V.heap.size:=Nat.lt_of_lt_of_le hb tV.size
  have HW:Hid (V1.setCell ⟨b,7,none⟩ (.int .u64 u)=V):=hV
  have q7:=fun n=>(Bn.gr dV.1 zV n).2.2.2.2.2.2.2.1
  have HZ:Hid (s.size=24):=hz
  have h24:24≤s.size:=by omega
  have HG:Hid (s.extract 4 8≠gap4):=hg
  clear hV hV1 h t1 hz hg
  obtain ⟨⟨c0,c1,c2,c3,c4,c5,c6,c7,c8,c9⟩,cf⟩:=W
  go_enter Tryz.func94,Tryz.ntmps94
  go_wp2_with fail
  refine (HN.out _).mono ?_
  rintro r w1 ⟨rfl,z1⟩
  obtain rfl:w=w1:=z1.symm
  go_wp2_with fail
  refine (H8.out _).mono ?_
  rintro r w1 ⟨rfl,z1⟩
  obtain rfl:w=w1:=z1.symm
  obtain ⟨⟨e0,e1,e2,e3,e4,e5,e6,e7,e8,e9⟩,ef⟩:=d1
  have HW1':=HW1.out
  go_wp2_with fail
  clear c0 c1 c2 c3 c4 c5 c6 c7 c8 c9 cf HW1'
  refine (H16.out _).mono ?_
  rintro r w1 ⟨rfl,z1⟩
  obtain rfl:V1=w1:=z1.symm
  go_wp2_with fail
  rw [HW.out]
  refine wp_region_grow (by kernel_rfl) (by kernel_rfl) ?_
  repeat (go_big_quiet_step (fail))
  refine wpQuiet_nil ?_
  rintro w3 hw'
  have g3:=gr_elim hw'
  clear hw'
  clear q7 e0 e1 e2 e3 e4 e5 e6 e7 e8 e9 ef
  go_wp2_with fail
  go_ret2
  exact ⟨{ x with mt:=v,mm:=u },5,false,rfl,dV.below zV g3,⟨(fun i=>absurd i (by decide)),fun i=>absurd (HI.out.2 i).2.1 HG.out⟩,(fun i=>absurd i (by decide)),⟨rfl,rfl,rfl,rfl⟩,fun B hB _ e=>⟨(tV.grow g3).tsf hB e.a,(tV.grow g3).tsf hB e.w,e.na,e.nw⟩,fun a c=>⟨a,c⟩,fun o=>⟨o.m0,o.m1,o.g0,o.g1,n0,n1,m0,m1⟩,tV.grow g3⟩
theorem take1z (s:ByteArray) (x:En) (b:Nat) (w:World) (h:Pt s 1) (W:Wn w b x) (hb:b < w.heap.size) (hs:s.size≤maxLen) (hz:s.size≠8):
    Calls Tryz.prog 94 #[.pointer (some ⟨b,0,none⟩),.string s] w (TkPost b s 1 x w):=by
  have h8:=h.z
  have HN:Hid (∀ w,Calls Tryz.prog 55 #[.string (s.extract 0 2)] w fun x w'=>x=.returned (.int .u64 1)∧w'=w):=(show ∀ w,_ from fun w=>by
    have:=rnm_any s 0 2 w (by omega)
    rwa [h.p] at this)
  have HI:Hid ((s.size=8∧s.extract 5 s.size=⟨#[0,0,0]⟩∧byteAt s 4≠0)↔partX 1 (readX 1 s x.sp)=s):=take_1 h x.sp
  have HY:Hid (readX 1 s x.sp={ x.sp with go:=byteAt s 4 }):=readX1 h x.sp
  obtain ⟨n0,n1⟩:=byteAt_lt s 4
  have hix:∀ w,(Instr.index 9 (.string s) (.int .i64 4)).run Tryz.prog w=.ok (.int .u8 (byteAt s 4)) w:=idx_s s 4 (by omega)
  have hz1:((s.size:Int) == 8)=false:=by rw [beq_eq_false_iff_ne];omega
  obtain ⟨v,hv⟩:∃ v,byteAt s 4=v:=⟨_,rfl⟩
  rw [hv] at n0 n1 HI HY
  simp only [hv] at hix
  clear hv
  obtain ⟨V,hV⟩:∃ V,w.setCell ⟨b,9,none⟩ (.int .i64 v)=V:=⟨_,rfl⟩
  have dV:Wn V b { x with go:=v }:=hV ▸ W.set9 v
  have tV:Tk b w V:=hV ▸ (Tk.refl b w).set 9 _
  have zV:b < V.heap.size:=Nat.lt_of_lt_of_le hb tV.size
  have HW:Hid (w.setCell ⟨b,9,none⟩ (.int .i64 v)=V):=hV
  have q9:=fun n=>(Bn.gr dV.1 zV n).2.2.2.2.2.2.2.2.2
  have HZ:Hid (s.size≠8):=hz
  clear hV h hz
  obtain ⟨⟨c0,c1,c2,c3,c4,c5,c6,c7,c8,c9⟩,cf⟩:=W
  go_enter Tryz.func94,Tryz.ntmps94
  go_wp2_with fail
  refine (HN.out _).mono ?_
  rintro r w1 ⟨rfl,z1⟩
  obtain rfl:w=w1:=z1.symm
  go_wp2_with fail
  rw [HW.out]
  refine wp_region_grow (by kernel_rfl) (by kernel_rfl) ?_
  repeat (go_big_quiet_step (fail))
  refine wpQuiet_nil ?_
  rintro w3 hw'
  have g3:=gr_elim hw'
  clear hw'
  clear q9 c0 c1 c2 c3 c4 c5 c6 c7 c8 c9 cf
  go_wp2_with fail
  go_ret2
  exact ⟨{ x with go:=v },6,false,rfl,dV.below zV g3,⟨(fun i=>absurd i (by decide)),fun i=>absurd (HI.out.2 i).1 HZ.out⟩,(fun i=>absurd i (by decide)),⟨rfl,rfl,rfl,rfl⟩,fun B hB _ e=>⟨(tV.grow g3).tsf hB e.a,(tV.grow g3).tsf hB e.w,e.na,e.nw⟩,fun a c=>⟨a,c⟩,fun o=>⟨o.m0,o.m1,n0,n1,o.t0,o.t1,o.k0,o.k1⟩,tV.grow g3⟩
theorem take1f (s:ByteArray) (x:En) (b:Nat) (w:World) (h:Pt s 1) (W:Wn w b x) (hb:b < w.heap.size) (hs:s.size≤maxLen) (hz:s.size=8) (hg:s.extract 5 s.size≠⟨#[0,0,0]⟩):
    Calls Tryz.prog 94 #[.pointer (some ⟨b,0,none⟩),.string s] w (TkPost b s 1 x w):=by
  have h8:=h.z
  have HN:Hid (∀ w,Calls Tryz.prog 55 #[.string (s.extract 0 2)] w fun x w'=>x=.returned (.int .u64 1)∧w'=w):=(show ∀ w,_ from fun w=>by
    have:=rnm_any s 0 2 w (by omega)
    rwa [h.p] at this)
  have HI:Hid ((s.size=8∧s.extract 5 s.size=⟨#[0,0,0]⟩∧byteAt s 4≠0)↔partX 1 (readX 1 s x.sp)=s):=take_1 h x.sp
  have HY:Hid (readX 1 s x.sp={ x.sp with go:=byteAt s 4 }):=readX1 h x.sp
  obtain ⟨n0,n1⟩:=byteAt_lt s 4
  have hix:∀ w,(Instr.index 9 (.string s) (.int .i64 4)).run Tryz.prog w=.ok (.int .u8 (byteAt s 4)) w:=idx_s s 4 (by omega)
  have hz1:((s.size:Int) == 8)=true:=by rw [beq_iff_eq];omega
  have hsl:∀ w,(Instr.slice 9 (.string s) (some (.int .i64 5)) none none).run Tryz.prog w=.ok (.string (s.extract 5 s.size)) w:=fun w=>slice_l s 5 (by omega) (by omega) w
  have hq:((s.extract 5 s.size).toList == [0,0,0])=false:=by rw [sEq];exact decide_eq_false hg
  obtain ⟨v,hv⟩:∃ v,byteAt s 4=v:=⟨_,rfl⟩
  rw [hv] at n0 n1 HI HY
  simp only [hv] at hix
  clear hv
  obtain ⟨V,hV⟩:∃ V,w.setCell ⟨b,9,none⟩ (.int .i64 v)=V:=⟨_,rfl⟩
  have dV:Wn V b { x with go:=v }:=hV ▸ W.set9 v
  have tV:Tk b w V:=hV ▸ (Tk.refl b w).set 9 _
  have zV:b < V.heap.size:=Nat.lt_of_lt_of_le hb tV.size
  have HW:Hid (w.setCell ⟨b,9,none⟩ (.int .i64 v)=V):=hV
  have q9:=fun n=>(Bn.gr dV.1 zV n).2.2.2.2.2.2.2.2.2
  have HZ:Hid (s.size=8):=hz
  have HG:Hid (s.extract 5 s.size≠⟨#[0,0,0]⟩):=hg
  clear hV h hz hg
  obtain ⟨⟨c0,c1,c2,c3,c4,c5,c6,c7,c8,c9⟩,cf⟩:=W
  go_enter Tryz.func94,Tryz.ntmps94
  go_wp2_with fail
  refine (HN.out _).mono ?_
  rintro r w1 ⟨rfl,z1⟩
  obtain rfl:w=w1:=z1.symm
  go_wp2_with fail
  rw [HW.out]
  refine wp_region_grow (by kernel_rfl) (by kernel_rfl) ?_
  repeat (go_big_quiet_step (fail))
  refine wpQuiet_nil ?_
  rintro w3 hw'
  have g3:=gr_elim hw'
  clear hw'
  clear q9 c0 c1 c2 c3 c4 c5 c6 c7 c8 c9 cf
  go_wp2_with fail
  go_ret2
  exact ⟨{ x with go:=v },6,false,rfl,dV.below zV g3,⟨(fun i=>absurd i (by decide)),fun i=>absurd (HI.out.2 i).2.1 HG.out⟩,(fun i=>absurd i (by decide)),⟨rfl,rfl,rfl,rfl⟩,fun B hB _ e=>⟨(tV.grow g3).tsf hB e.a,(tV.grow g3).tsf hB e.w,e.na,e.nw⟩,fun a c=>⟨a,c⟩,fun o=>⟨o.m0,o.m1,n0,n1,o.t0,o.t1,o.k0,o.k1⟩,tV.grow g3⟩
theorem take1t (s:ByteArray) (x:En) (b:Nat) (w:World) (h:Pt s 1) (W:Wn w b x) (hb:b < w.heap.size) (hs:s.size≤maxLen) (hz:s.size=8) (hg:s.extract 5 s.size=⟨#[0,0,0]⟩):
    Calls Tryz.prog 94 #[.pointer (some ⟨b,0,none⟩),.string s] w (TkPost b s 1 x w):=by
  have h8:=h.z
  have HN:Hid (∀ w,Calls Tryz.prog 55 #[.string (s.extract 0 2)] w fun x w'=>x=.returned (.int .u64 1)∧w'=w):=(show ∀ w,_ from fun w=>by
    have:=rnm_any s 0 2 w (by omega)
    rwa [h.p] at this)
  have HI:Hid ((s.size=8∧s.extract 5 s.size=⟨#[0,0,0]⟩∧byteAt s 4≠0)↔partX 1 (readX 1 s x.sp)=s):=take_1 h x.sp
  have HY:Hid (readX 1 s x.sp={ x.sp with go:=byteAt s 4 }):=readX1 h x.sp
  obtain ⟨n0,n1⟩:=byteAt_lt s 4
  have hix:∀ w,(Instr.index 9 (.string s) (.int .i64 4)).run Tryz.prog w=.ok (.int .u8 (byteAt s 4)) w:=idx_s s 4 (by omega)
  have hz1:((s.size:Int) == 8)=true:=by rw [beq_iff_eq];omega
  have hsl:∀ w,(Instr.slice 9 (.string s) (some (.int .i64 5)) none none).run Tryz.prog w=.ok (.string (s.extract 5 s.size)) w:=fun w=>slice_l s 5 (by omega) (by omega) w
  have hq:((s.extract 5 s.size).toList == [0,0,0])=true:=by rw [sEq];exact decide_eq_true hg
  obtain ⟨v,hv⟩:∃ v,byteAt s 4=v:=⟨_,rfl⟩
  rw [hv] at n0 n1 HI HY
  simp only [hv] at hix
  clear hv
  obtain ⟨V,hV⟩:∃ V,w.setCell ⟨b,9,none⟩ (.int .i64 v)=V:=⟨_,rfl⟩
  have dV:Wn V b { x with go:=v }:=hV ▸ W.set9 v
  have tV:Tk b w V:=hV ▸ (Tk.refl b w).set 9 _
  have zV:b < V.heap.size:=Nat.lt_of_lt_of_le hb tV.size
  have HW:Hid (w.setCell ⟨b,9,none⟩ (.int .i64 v)=V):=hV
  have q9:=fun n=>(Bn.gr dV.1 zV n).2.2.2.2.2.2.2.2.2
  have HZ:Hid (s.size=8):=hz
  have HG:Hid (s.extract 5 s.size=⟨#[0,0,0]⟩):=hg
  clear hV h hz hg
  obtain ⟨⟨c0,c1,c2,c3,c4,c5,c6,c7,c8,c9⟩,cf⟩:=W
  go_enter Tryz.func94,Tryz.ntmps94
  go_wp2_with fail
  refine (HN.out _).mono ?_
  rintro r w1 ⟨rfl,z1⟩
  obtain rfl:w=w1:=z1.symm
  go_wp2_with fail
  rw [HW.out]
  refine wp_region_grow (by kernel_rfl) (by kernel_rfl) ?_
  repeat (go_big_quiet_step (fail))
  refine wpQuiet_nil ?_
  rintro w3 hw'
  have g3:=gr_elim hw'
  clear hw'
  clear q9 c0 c1 c2 c3 c4 c5 c6 c7 c8 c9 cf
  go_wp2_with fail
  go_ret2
  refine ⟨{ x with go:=v },6,v != 0,rfl,dV.below zV g3,?_,fun _=>⟨HY.out.symm,rfl⟩,⟨rfl,rfl,rfl,rfl⟩,fun B hB _ e=>⟨(tV.grow g3).tsf hB e.a,(tV.grow g3).tsf hB e.w,e.na,e.nw⟩,fun a c=>⟨a,c⟩,fun o=>⟨o.m0,o.m1,n0,n1,o.t0,o.t1,o.k0,o.k1⟩,tV.grow g3⟩
  rw [← HI.out]
  exact ⟨fun i=>⟨HZ.out,HG.out,by simpa using i⟩,fun i=>by simpa using i.2.2⟩
theorem take0 (p:Int) (s:ByteArray) (x:En) (b:Nat) (w:World) (h:Pt s p) (W:Wn w b x) (hb:b < w.heap.size) (hs:s.size≤maxLen) (b1:(p == 6)=false) (b2:(p == 4)=false) (b3:(p == 5)=false) (b4:(p == 3)=false) (b5:(p == 2)=false) (b6:(p == 1)=false) (hn:∀ y,hasX p y=false):
    Calls Tryz.prog 94 #[.pointer (some ⟨b,0,none⟩),.string s] w (TkPost b s p x w):=by
  have h8:=h.z
  have HN:Hid (∀ w,Calls Tryz.prog 55 #[.string (s.extract 0 2)] w fun x w'=>x=.returned (.int .u64 p)∧w'=w):=(show ∀ w,_ from fun w=>by
    have:=rnm_any s 0 2 w (by omega)
    rwa [h.p] at this)
  have HI:Hid (¬ partX p (readX p s x.sp)=s):=(show ¬ _ by
    rw [part_iff h,hn]
    simp)
  clear h hn
  go_enter Tryz.func94,Tryz.ntmps94
  go_wp2_with fail
  refine (HN.out _).mono ?_
  rintro r w1 ⟨rfl,z1⟩
  obtain rfl:w=w1:=z1.symm
  go_wp2_with fail
  go_ret2
  exact ⟨x,0,false,rfl,W,⟨(fun i=>absurd i (by decide)),fun i=>absurd i HI.out⟩,(fun i=>absurd i (by decide)),⟨rfl,rfl,rfl,rfl⟩,fun B hB _ e=>e,fun a c=>⟨a,c⟩,fun o=>o,Tk.refl b w⟩
theorem rtake_any (p:Int) (s:ByteArray) (x:En) (b:Nat) (w:World) (h:Pt s p) (W:Wn w b x) (hb:b < w.heap.size) (hs:s.size≤maxLen) :
    Calls Tryz.prog 94 #[.pointer (some ⟨b,0,none⟩),.string s] w (TkPost b s p x w):=by
  rcases part_cases p with rfl | rfl | rfl | rfl | rfl | rfl | ⟨b1,b2,b3,b4,b5,b6,hn⟩
  · by_cases hz:s.size=8
    · exact take6t s x b w h W hb hs hz
    · exact take6f s x b w h W hb hs hz
  · by_cases hE:(decR (s.extract 8 s.size)).2=0
    · by_cases hl:(decL s).length=0
      · exact take4n s x b w h W hb hs hE hl
      · exact take4g s x b w h W hb hs hE (by omega)
    · exact take4e s x b w h W hb hs hE
  · exact take5 s x b w h W hb hs
  · by_cases hE:(decR (s.extract 8 s.size)).2=0
    · by_cases hl:(decL s).length=0
      · exact take3n s x b w h W hb hs hE hl
      · exact take3g s x b w h W hb hs hE (by omega)
    · exact take3e s x b w h W hb hs hE
  · by_cases hz:s.size=24
    · by_cases hg:s.extract 4 8=gap4
      · exact take2t s x b w h W hb hs hz hg
      · exact take2f s x b w h W hb hs hz hg
    · exact take2n s x b w h W hb hs hz
  · by_cases hz:s.size=8
    · by_cases hg:s.extract 5 s.size=⟨#[0,0,0]⟩
      · exact take1t s x b w h W hb hs hz hg
      · exact take1f s x b w h W hb hs hz hg
    · exact take1z s x b w h W hb hs hz
  · exact take0 p s x b w h W hb hs b1 b2 b3 b4 b5 b6 hn
theorem cut_pt {d:ByteArray} (h:fszE d=0):Pt (cutX d) (num2 d):=by
 have f:=fsz_of h
 have h1:=f.len
 have h2:=f.le
 have h4:=f.four
 have hc:=cut_size h
 have e:∀ i j,j≤8→nm (cutX d) i j=nm d i j:=fun i j hj=>by
  unfold nm cutX
  rw [ext_ext,f.z,Nat.zero_add,show min (0 + j) (sizeV d).toNat=j by omega]
 refine ⟨by omega,?_,?_⟩
 ·rw [e 0 2 (by omega),num2_nm d (by omega)]
 ·rw [e 2 4 (by omega),← size_nm d h4,hc]
theorem rdecX_any (t:Int) (d:ByteArray) (w:World) (hs:d.size≤maxLen) :
    Calls Tryz.prog 60 #[.int .i64 t,.string d] w fun e w'=>∃ y:En,e=.returned (.tuple #[enV y,.int .i64 (decX t d).2])∧y.sp=(decX t d).1∧(y.pri=0∧y.ta=none∧y.tl=0∧y.tc=0)∧EF w.heap.size w' y∧SOk y.sp∧Below w.heap.size w w':=by
  have HNm:Hid (∀ (D:ByteArray) (w:World),Calls Tryz.prog 55 #[.string (D.extract 2 4)] w fun x w'=>x=.returned (.int .u64 (nm D 2 4))∧w'=w):=(show ∀ (D:ByteArray) (w:World),_ from fun D w=>rnm_any D 2 4 w (by omega))
  have HTk:Hid (∀ (p:Int) (s:ByteArray) (x:En) (b:Nat) (w:World),Pt s p→Wn w b x→b < w.heap.size→s.size≤maxLen→Calls Tryz.prog 94 #[.pointer (some ⟨b,0,none⟩),.string s] w (TkPost b s p x w)):=(show ∀ (p:Int) (s:ByteArray) (x:En) (b:Nat) (w:World),_ from fun p s x b w a1 a2 a3 a4=>rtake_any p s x b w a1 a2 a3 a4)
  have HRt:Hid (∀ (x:En) (w:World),EW w x→AWs x.la→AWs x.lw→SOk x.sp→Calls Tryz.prog 79 #[enV x] w fun e w'=>e=.returned (.int .i64 (rightX x.sp))∧Below w.heap.size w w'):=(show ∀ (x:En) (w:World),_ from fun x w a1 a2 a3 o=>rrX_any x w a1 a2 a3 o.t0 o.t1)
  obtain ⟨O,hOO⟩:∃ Z,decX t d=Z:=⟨_,rfl⟩
  have HZ:Hid (O=if tabB t=false then (sp0,26) else if (raR t d).2≠0 then (sp0,(raR t d).2) else if rightX (raR t d).1≠0 then (sp0,rightX (raR t d).1) else ((raR t d).1,0)):=(show _=_ by rw [← hOO];rfl)
  rw [hOO]
  clear hOO
  cases ht:tabB t with
  | false =>
    have HO:Hid (O=(sp0,26)):=(show _=_ by rw [HZ.out,if_pos ht])
    have ht':(t < 0)∨¬ (t < 0)∧(7 < t):=by unfold tabB at ht;simp at ht;omega
    clear HZ ht
    rcases ht' with ht' | ⟨ht',ht2⟩
    all_goals
      go_enter Tryz.func60,Tryz.ntmps60
      go_wp2_with fail
      refine bodyPost_ret (resEe (b:=w.heap.size) (x:=en0) rfl rfl (Bn.new w en0)) rfl ?_
      exact ⟨en0,by rw [HO.out];rfl,by rw [HO.out];rfl,⟨rfl,rfl,rfl,rfl⟩,en0_f _ _,en0_ok,by go_grown⟩
  | true =>
    have k1 : ¬ (t < 0):=by unfold tabB at ht;simp at ht;omega
    have k2 : ¬ (7 < t):=by unfold tabB at ht;simp at ht;omega
    obtain ⟨RR,hRR⟩:∃ Z,raR t d=Z:=⟨_,rfl⟩
    have HG0:Hid (raGo d.size d (spT t) 0=RR):=hRR
    have HU:Hid (O=if RR.2≠0 then (sp0,RR.2) else if rightX RR.1≠0 then (sp0,rightX RR.1) else (RR.1,0)):=(show _=_ by rw [HZ.out,if_neg (by rw [ht];decide),hRR])
    clear HZ ht hRR
    go_enter Tryz.func60,Tryz.ntmps60
    go_wp2_with fail
    go_loopw [1,7] (fun dv lv wr=>∃ (D:ByteArray) (x:En) (last:Int),dv=.string D∧lv=.int .i64 last∧D.size≤d.size∧Hid (raGo D.size D x.sp last=RR)∧Wn wr w.heap.size en0∧Wn wr (w.heap.size + 1) x∧Hid (EF (w.heap.size + 2) wr x)∧Hid (AWs x.la∧AWs x.lw)∧Hid (SOk x.sp)∧Hid (x.pri=0∧x.ta=none∧x.tl=0∧x.tc=0)∧w.heap.size + 2≤wr.heap.size∧Below w.heap.size w wr) (fun dv _ _=>szOf dv)
    case atStart =>
      exact ⟨d,enT t,0,rfl,rfl,Nat.le_refl _,HG0.out,by have:=Wn.twoR0 w t;first | exact this | simpa [enT,en0] using this,by have:=Wn.twoR1 w t;first | exact this | simpa [enT] using this,(show EF _ _ _ from ⟨.inl rfl,.inl rfl,by simp [enT],by simp [enT]⟩),(show _∧_ from ⟨by simp [enT],by simp [enT]⟩),(show SOk _ from ⟨by show (0:Int)≤0;omega,by show (0:Int) < _;omega,by show (0:Int)≤0;omega,by show (0:Int) < _;omega,by show (0:Int)≤0;omega,by show (0:Int) < _;omega,by show (0:Int)≤0;omega,by show (0:Int) < _;omega⟩),(show _∧_∧_∧_ from ⟨rfl,rfl,rfl,rfl⟩),by simp,by go_grown⟩
    case round =>
      obtain ⟨D,x,last,rfl,rfl,hle,HG,e0,d0,HEF,HAw,HOk,HPr,hsz,hbel⟩:=hrel
      by_cases hD:D.size=0
      · have he:D.toList.isEmpty=true:=by
          rw [ByteArray.toList_eq]
          have:D.data.toList.length=0:=by simpa using hD
          rw [List.length_eq_zero_iff.1 this]
          rfl
        have HO2:Hid (O=if rightX x.sp≠0 then (sp0,rightX x.sp) else (x.sp,0)):=(show _=_ by
          have:RR=(x.sp,0):=by rw [← HG.out,raGo_end _ _ hD]
          rw [HU.out,this,if_neg (by simp)])
        have HRx:Hid (Calls Tryz.prog 79 #[enV x] wr fun e w'=>e=.returned (.int .i64 (rightX x.sp))∧Below wr.heap.size wr w'):=(show Calls _ _ _ _ _ from HRt.out x wr HEF.out.ew HAw.out.1 HAw.out.2 HOk.out)
        clear HG hD HU
        have d0':=d0
        obtain ⟨⟨c0,c1,c2,c3,c4,c5,c6,c7,c8,c9⟩,cf⟩:=d0'
        by_cases hR:rightX x.sp=0
        · have HO:Hid (O=(x.sp,0)):=(show _=_ by rw [HO2.out,if_neg (by simpa using hR)])
          rw [hR] at HRx
          clear HO2 hR
          go_wp2_with fail
          refine HRx.out.mono ?_
          rintro r w3 ⟨rfl,g3⟩
          have e3:=e0.below (by omega) g3
          have d3:=d0.below (by omega) g3
          have HF3:Hid (EF (w.heap.size + 2) w3 x):=(show EF _ _ _ from HEF.out.below g3)
          have G3:Below w.heap.size w w3:=btr hbel g3 (by omega)
          clear g3 e0 d0 HEF c0 c1 c2 c3 c4 c5 c6 c7 c8 c9 cf hbel
          obtain ⟨V,hV⟩:∃ V,w3.setCells w.heap.size 0 (enC x).toList=V:=⟨_,rfl⟩
          have HTy:Hid (w3.there w.heap.size 0 (enC x).size):=(show World.there _ _ _ _ from wn_there e3)
          have F1:Wn V w.heap.size x:=hV ▸ wn_set e3 x
          have GV:Below w.heap.size w V:=hV ▸ below_sE x G3 (Nat.le_refl _)
          have HEV:Hid (EF w.heap.size V x):=(show EF _ _ _ from by
            have f:EF (w.heap.size + 2) V x:=hV ▸ ⟨HF3.out.a.keep (below_sE x (Below.refl 0 _) (Nat.zero_le _)).size (fun g hg _=>below_sE_block x (by omega)),HF3.out.w.keep (below_sE x (Below.refl 0 _) (Nat.zero_le _)).size (fun g hg _=>below_sE_block x (by omega)),HF3.out.na,HF3.out.nw⟩
            exact ⟨f.a.mono (by omega),f.w.mono (by omega),f.na,f.nw⟩)
          have HWy:Hid (w3.setCells w.heap.size 0 (enC x).toList=V):=hV
          clear hV e3
          obtain ⟨⟨c0,c1,c2,c3,c4,c5,c6,c7,c8,c9⟩,cf⟩:=d3
          go_wp2_with (refine wpList_store_mid rfl 26 (.tmp 4) _ rfl w.heap.size 0 (enC x) rfl rfl HTy.out (hiE x) (oneE x) ?_;rw [HWy.out])
          refine bodyPost_ret (resEe (b:=w.heap.size) (x:=x) rfl rfl F1.1) rfl ?_
          exact ⟨x,by rw [HO.out];rfl,by rw [HO.out],HPr.out,HEV.out,HOk.out,GV⟩
        · have hRb:(rightX x.sp != 0)=true:=by simpa using hR
          have HO:Hid (O=(sp0,rightX x.sp)):=(show _=_ by rw [HO2.out,if_pos (by simpa using hR)])
          clear HO2 hR
          generalize rightX x.sp=R at *
          go_wp2_with fail
          refine HRx.out.mono ?_
          rintro r w3 ⟨rfl,g3⟩
          have e3:=e0.below (by omega) g3
          have G3:Below w.heap.size w w3:=btr hbel g3 (by omega)
          clear g3 e0 d0 HEF c0 c1 c2 c3 c4 c5 c6 c7 c8 c9 cf hbel
          obtain ⟨V0,hV0⟩:∃ V,(w3).setCells w.heap.size 0 (enC en0).toList=V:=⟨_,rfl⟩
          have HT0:Hid ((w3).there w.heap.size 0 (enC en0).size):=(show World.there _ _ _ _ from wn_there e3)
          have F0:Wn V0 w.heap.size en0:=hV0 ▸ wn_set e3 en0
          have GV0:Below w.heap.size w V0:=hV0 ▸ below_sE en0 G3 (Nat.le_refl _)
          have HW0:Hid ((w3).setCells w.heap.size 0 (enC en0).toList=V0):=hV0
          clear hV0 e3 G3
          go_wp2_with (refine wpList_store_mid rfl 26 (.tmp 4) _ rfl w.heap.size 0 (enC en0) rfl rfl HT0.out (hiE en0) (oneE en0) ?_;rw [HW0.out])
          refine bodyPost_ret (resEe (b:=w.heap.size) (x:=en0) rfl rfl F0.1) rfl ?_
          exact ⟨en0,by rw [HO.out];rfl,by rw [HO.out];rfl,⟨rfl,rfl,rfl,rfl⟩,en0_f _ _,en0_ok,GV0⟩
      · have he:D.toList.isEmpty=false:=by
          rw [ByteArray.toList_eq]
          have h1:D.data.toList.length≠0:=by simpa using hD
          cases h:D.data.toList with
          | nil=>rw [h] at h1;exact absurd rfl h1
          | cons _ _=>rfl
        have HX:Hid (RR=if fszE D=0 then (if partX (num2 D) (nextX D x.sp)=cutX D then (if placeX (num2 D)≤last then (sp0,23) else raGo (restX D).size (restX D) (nextX D x.sp) (placeX (num2 D))) else (sp0,11)) else (sp0,fszE D)):=(show _=_ by rw [← HG.out,raGo_un _ _ hD])
        have stop:∀ E:Int,E≠0→RR=(sp0,E)→Hid (O=(sp0,E)):=fun E hE e=>(show _=_ by rw [HU.out,e,if_pos hE])
        clear HG hD
        have hDm:D.size≤maxLen:=by omega
        by_cases h4:D.size < 4
        · have h4':(D.size:Int) < 4:=by omega
          have HO:=stop 10 (by decide) (by
            have e:fszE D=10:=by unfold fszE;rw [if_pos h4]
            rw [HX.out,if_neg (by rw [e];decide),e])
          clear stop HX HU h4 d0
          obtain ⟨V0,hV0⟩:∃ V,(wr).setCells w.heap.size 0 (enC en0).toList=V:=⟨_,rfl⟩
          have HT0:Hid ((wr).there w.heap.size 0 (enC en0).size):=(show World.there _ _ _ _ from wn_there e0)
          have F0:Wn V0 w.heap.size en0:=hV0 ▸ wn_set e0 en0
          have GV0:Below w.heap.size w V0:=hV0 ▸ below_sE en0 hbel (Nat.le_refl _)
          have HW0:Hid ((wr).setCells w.heap.size 0 (enC en0).toList=V0):=hV0
          clear hV0 e0 hbel
          go_wp2_with (refine wpList_store_mid rfl 26 (.tmp 4) _ rfl w.heap.size 0 (enC en0) rfl rfl HT0.out (hiE en0) (oneE en0) ?_;rw [HW0.out])
          refine bodyPost_ret (resEe (b:=w.heap.size) (x:=en0) rfl rfl F0.1) rfl ?_
          exact ⟨en0,by rw [HO.out];rfl,by rw [HO.out];rfl,⟨rfl,rfl,rfl,rfl⟩,en0_f _ _,en0_ok,GV0⟩
        · have h4' : ¬ (D.size:Int) < 4:=by omega
          have hszn:=size_nm D (by omega)
          have hsr:=sizeV_range D
          have hsl:∀ w,(Instr.slice 9 (.string D) (some (.int .i64 2)) (some (.int .i64 4)) none).run Tryz.prog w=.ok (.string (D.extract 2 4)) w:=fun w=>slice_lh D 2 4 (by omega) (by omega) (by omega) w
          have HNu:Hid (∀ w,Calls Tryz.prog 55 #[.string (D.extract 2 4)] w fun x w'=>x=.returned (.int .u64 (sizeV D))∧w'=w):=(show ∀ w,_ from fun w=>by rw [hszn];exact HNm.out D w)
          obtain ⟨z0,z1⟩:=hsr
          clear hszn
          by_cases h5:(D.size:Int) < sizeV D
          · have HO:=stop 10 (by decide) (by
              have e:fszE D=10:=by unfold fszE;rw [if_neg h4,if_pos h5]
              rw [HX.out,if_neg (by rw [e];decide),e])
            clear stop HX HU h4
            generalize D.extract 2 4=X at *
            generalize sizeV D=N at *
            go_wp2_with fail
            refine (HNu.out _).mono ?_
            rintro r w1 ⟨rfl,q1⟩
            obtain rfl:wr=w1:=q1.symm
            clear d0
            obtain ⟨V0,hV0⟩:∃ V,(wr).setCells w.heap.size 0 (enC en0).toList=V:=⟨_,rfl⟩
            have HT0:Hid ((wr).there w.heap.size 0 (enC en0).size):=(show World.there _ _ _ _ from wn_there e0)
            have F0:Wn V0 w.heap.size en0:=hV0 ▸ wn_set e0 en0
            have GV0:Below w.heap.size w V0:=hV0 ▸ below_sE en0 hbel (Nat.le_refl _)
            have HW0:Hid ((wr).setCells w.heap.size 0 (enC en0).toList=V0):=hV0
            clear hV0 e0 hbel
            go_wp2_with (refine wpList_store_mid rfl 26 (.tmp 4) _ rfl w.heap.size 0 (enC en0) rfl rfl HT0.out (hiE en0) (oneE en0) ?_;rw [HW0.out])
            refine bodyPost_ret (resEe (b:=w.heap.size) (x:=en0) rfl rfl F0.1) rfl ?_
            exact ⟨en0,by rw [HO.out];rfl,by rw [HO.out];rfl,⟨rfl,rfl,rfl,rfl⟩,en0_f _ _,en0_ok,GV0⟩
          · by_cases h6:sizeV D < 8
            · have HO:=stop 11 (by decide) (by
                have e:fszE D=11:=by unfold fszE;rw [if_neg h4,if_neg h5,if_pos h6]
                rw [HX.out,if_neg (by rw [e];decide),e])
              clear stop HX HU h4
              generalize D.extract 2 4=X at *
              generalize sizeV D=N at *
              go_wp2_with fail
              refine (HNu.out _).mono ?_
              rintro r w1 ⟨rfl,q1⟩
              obtain rfl:wr=w1:=q1.symm
              clear d0
              obtain ⟨V0,hV0⟩:∃ V,(wr).setCells w.heap.size 0 (enC en0).toList=V:=⟨_,rfl⟩
              have HT0:Hid ((wr).there w.heap.size 0 (enC en0).size):=(show World.there _ _ _ _ from wn_there e0)
              have F0:Wn V0 w.heap.size en0:=hV0 ▸ wn_set e0 en0
              have GV0:Below w.heap.size w V0:=hV0 ▸ below_sE en0 hbel (Nat.le_refl _)
              have HW0:Hid ((wr).setCells w.heap.size 0 (enC en0).toList=V0):=hV0
              clear hV0 e0 hbel
              go_wp2_with (refine wpList_store_mid rfl 26 (.tmp 4) _ rfl w.heap.size 0 (enC en0) rfl rfl HT0.out (hiE en0) (oneE en0) ?_;rw [HW0.out])
              refine bodyPost_ret (resEe (b:=w.heap.size) (x:=en0) rfl rfl F0.1) rfl ?_
              exact ⟨en0,by rw [HO.out];rfl,by rw [HO.out];rfl,⟨rfl,rfl,rfl,rfl⟩,en0_f _ _,en0_ok,GV0⟩
            · have hE:fszE D=0:=by unfold fszE;rw [if_neg h4,if_neg h5,if_neg h6]
              have HX2:Hid (RR=if partX (num2 D) (nextX D x.sp)=cutX D then (if placeX (num2 D)≤last then (sp0,23) else raGo (restX D).size (restX D) (nextX D x.sp) (placeX (num2 D))) else (sp0,11)):=(show _=_ by rw [HX.out,if_pos hE])
              have hz3:=(fsz_of hE).z
              have hcs:=cut_size hE
              have hrs:=rest_size hE
              have hpt:=cut_pt hE
              have hsh:∀ w,(Instr.slice 9 (.string D) none (some (.int .i64 (sizeV D))) none).run Tryz.prog w=.ok (.string (cutX D)) w:=fun w=>by
                unfold cutX
                rw [hz3]
                exact slice_h D _ (by omega) (by omega) w
              have hsl2:∀ w,(Instr.slice 9 (.string D) (some (.int .i64 (sizeV D))) none none).run Tryz.prog w=.ok (.string (restX D)) w:=fun w=>by
                unfold restX
                rw [hz3]
                exact slice_l D _ (by omega) (by omega) w
              have HTx:Hid (Calls Tryz.prog 94 #[.pointer (some ⟨w.heap.size + 1,0,none⟩),.string (cutX D)] wr (TkPost (w.heap.size + 1) (cutX D) (num2 D) x wr)):=(show Calls _ _ _ _ _ from HTk.out (num2 D) (cutX D) x (w.heap.size + 1) wr hpt d0 (by omega) (by omega))
              have HNX:Hid (nextX D x.sp=readX (num2 D) (cutX D) x.sp):=(show _=_ from rfl)
              have hrm:(restX D).size < D.size:=hrs
              clear HX hE hz3 hcs hrs hpt h4
              generalize D.extract 2 4=X at *
              generalize sizeV D=N at *
              generalize num2 D=p at *
              generalize cutX D=C at *
              generalize restX D=D' at *
              generalize nextX D x.sp=s' at *
              go_wp2_with fail
              refine (HNu.out _).mono ?_
              rintro r w1 ⟨rfl,q1⟩
              obtain rfl:wr=w1:=q1.symm
              go_wp2_with fail
              refine HTx.out.mono ?_
              rintro r w4 ⟨y,A,I,rfl,d4,hI,hY,hP4,hEF4,hAw4,hOk4,tk⟩
              have e4:=e0.block (tk.block _ (by omega) (by omega))
              have HEF4:Hid (EF (w.heap.size + 2) w4 y):=(show EF _ _ _ from hEF4 _ (by omega) (by omega) HEF.out)
              have HAw4:Hid (AWs y.la∧AWs y.lw):=(show _∧_ from hAw4 HAw.out.1 HAw.out.2)
              have HOk4:Hid (SOk y.sp):=(show SOk _ from hOk4 HOk.out)
              have HPr4:Hid (y.pri=0∧y.ta=none∧y.tl=0∧y.tc=0):=(show _∧_∧_∧_ from by
                obtain ⟨p1,p2,p3,p4⟩:=HPr.out
                exact ⟨by rw [hP4.1,p1],by rw [hP4.2.1,p2],by rw [hP4.2.2.1,p3],by rw [hP4.2.2.2,p4]⟩)
              have G4:Below w.heap.size w w4:=tk.below (by omega) hbel
              have s4:w.heap.size + 2≤w4.heap.size:=by have:=tk.size;omega
              have HI:Hid (I=true↔partX p s'=C):=(show _↔_ from by rw [HNX.out];exact hI)
              have HY:Hid (I=true→y.sp=s'∧A=placeX p):=(show _→_ from fun i=>by rw [HNX.out];exact hY i)
              clear e0 d0 HEF HAw HOk HPr hsz hbel hI hY hP4 hEF4 hAw4 hOk4 tk
              cases I with
              | false =>
                have HO:=stop 11 (by decide) (by rw [HX2.out,if_neg (fun h=>absurd (HI.out.2 h) (by decide))])
                clear stop HX2 HU HI HY d4
                obtain ⟨V0,hV0⟩:∃ V,(w4).setCells w.heap.size 0 (enC en0).toList=V:=⟨_,rfl⟩
                have HT0:Hid ((w4).there w.heap.size 0 (enC en0).size):=(show World.there _ _ _ _ from wn_there e4)
                have F0:Wn V0 w.heap.size en0:=hV0 ▸ wn_set e4 en0
                have GV0:Below w.heap.size w V0:=hV0 ▸ below_sE en0 G4 (Nat.le_refl _)
                have HW0:Hid ((w4).setCells w.heap.size 0 (enC en0).toList=V0):=hV0
                clear hV0 e4 G4
                go_wp2_with (refine wpList_store_mid rfl 26 (.tmp 4) _ rfl w.heap.size 0 (enC en0) rfl rfl HT0.out (hiE en0) (oneE en0) ?_;rw [HW0.out])
                refine bodyPost_ret (resEe (b:=w.heap.size) (x:=en0) rfl rfl F0.1) rfl ?_
                exact ⟨en0,by rw [HO.out];rfl,by rw [HO.out];rfl,⟨rfl,rfl,rfl,rfl⟩,en0_f _ _,en0_ok,GV0⟩
              | true =>
                obtain ⟨y1,y2⟩:=HY.out rfl
                have HX3:Hid (RR=if A≤last then (sp0,23) else raGo D'.size D' s' A):=(show _=_ by rw [HX2.out,if_pos (HI.out.1 rfl),← y2])
                have HY1:Hid (y.sp=s'):=y1
                clear HX2 HI HY y1 y2
                by_cases hL:A≤last
                · have HO:=stop 23 (by decide) (by rw [HX3.out,if_pos hL])
                  clear stop HX3 HU d4
                  obtain ⟨V0,hV0⟩:∃ V,(w4).setCells w.heap.size 0 (enC en0).toList=V:=⟨_,rfl⟩
                  have HT0:Hid ((w4).there w.heap.size 0 (enC en0).size):=(show World.there _ _ _ _ from wn_there e4)
                  have F0:Wn V0 w.heap.size en0:=hV0 ▸ wn_set e4 en0
                  have GV0:Below w.heap.size w V0:=hV0 ▸ below_sE en0 G4 (Nat.le_refl _)
                  have HW0:Hid ((w4).setCells w.heap.size 0 (enC en0).toList=V0):=hV0
                  clear hV0 e4 G4
                  go_wp2_with (refine wpList_store_mid rfl 26 (.tmp 4) _ rfl w.heap.size 0 (enC en0) rfl rfl HT0.out (hiE en0) (oneE en0) ?_;rw [HW0.out])
                  refine bodyPost_ret (resEe (b:=w.heap.size) (x:=en0) rfl rfl F0.1) rfl ?_
                  exact ⟨en0,by rw [HO.out];rfl,by rw [HO.out];rfl,⟨rfl,rfl,rfl,rfl⟩,en0_f _ _,en0_ok,GV0⟩
                · have HX4:Hid (raGo D'.size D' s' A=RR):=(show _=_ by rw [HX3.out,if_neg hL])
                  clear stop HX3
                  go_wp2_with fail
                  go_roundw
                  case rel=>exact ⟨D',y,A,rfl,rfl,by omega,(show _=_ by rw [HY1.out];exact HX4.out),e4,d4,HEF4,HAw4,HOk4,HPr4,s4,G4⟩
                  case measure=>simpa [szOf] using hrm
end Go.Proofs.YtlcbfdiohcbpbaaGreatDoor

import Derived.Test.YtlcbfdiohcbpbaaGreatDoorRSeA
import Derived.Test.YtlcbfdiohcbpbaaGreatDoorRSeB
import Derived.Test.YtlcbfdiohcbpbaaGreatDoorRSeC
import Derived.Test.YtlcbfdiohcbpbaaGreatDoorZR3
namespace Go.Proofs.YtlcbfdiohcbpbaaGreatDoor
open Go.ChangeShapes Go.WideShapes Go.ChangeAt Go.RowKit
set_option linter.unusedVariables false
set_option linter.unusedSimpArgs false
theorem seems_any (d:ByteArray) (w:World) (hd:8≤d.size) (hs:d.size≤65535):Calls Tryz.prog 25 #[.string d] w (SeM d w):=by
 by_cases h1:(numB d 1 1 == 1)=true
 ·exact se_1 d w hd hs h1
 have g1:=Bool.eq_false_iff.2 h1
 by_cases h2:(numB d 1 1 == 2)=true
 ·exact se_2 d w hd hs g1 h2
 have g2:=Bool.eq_false_iff.2 h2
 by_cases h3:(numB d 1 1 == 3)=true
 ·exact se_3 d w hd hs g1 g2 h3
 have g3:=Bool.eq_false_iff.2 h3
 by_cases h12:(numB d 1 1 == 12)=true
 ·exact se_12 d w hd hs g1 g2 g3 h12
 have g12:=Bool.eq_false_iff.2 h12
 by_cases h13:(numB d 1 1 == 13)=true
 ·exact se_13 d w hd hs g1 g2 g3 g12 h13
 have g13:=Bool.eq_false_iff.2 h13
 by_cases h14:(numB d 1 1 == 14)=true
 ·exact se_14 d w hd hs g1 g2 g3 g12 g13 h14
 have g14:=Bool.eq_false_iff.2 h14
 by_cases h15:(numB d 1 1 == 15)=true
 ·exact se_15 d w hd hs g1 g2 g3 g12 g13 g14 h15
 have g15:=Bool.eq_false_iff.2 h15
 by_cases h29:(numB d 1 1 == 29)=true
 ·exact se_29 d w hd hs g1 g2 g3 g12 g13 g14 g15 h29
 exact se_n d w hd hs g1 g2 g3 g12 g13 g14 g15 (Bool.eq_false_iff.2 h29)
theorem nb1 (x:ByteArray) (v:Int) (t:ByteArray) (a:Nat) (hx:x.size=a) (h0:0≤v) (h1:v≤255):numB (x ++ (pb v 1 ++ t)) a 1=v:=numB_ap x v 1 t a hx (by omega) h0 (by omega)
theorem nb2 (x:ByteArray) (v:Int) (t:ByteArray) (a:Nat) (hx:x.size=a) (h0:0≤v) (h1:v≤65535):numB (x ++ (pb v 2 ++ t)) a 2=v:=numB_ap x v 2 t a hx (by omega) h0 (by omega)
theorem nb4 (x:ByteArray) (v:Int) (t:ByteArray) (a:Nat) (hx:x.size=a) (h0:0≤v) (h1:v < 4294967296):numB (x ++ (pb v 4 ++ t)) a 4=v:=numB_ap x v 4 t a hx (by omega) h0 (by omega)
theorem nb2z (v:Int) (t:ByteArray) (h0:0≤v) (h1:v≤65535):numB (pb v 2 ++ t) 0 2=v:=by
 have:=nb2 ⟨#[]⟩ v t 0 rfl h0 h1
 rwa [e_ap] at this
theorem partB_ap (x e t:ByteArray) (a k:Nat) (hx:x.size=a) (he:e.size=k):partB (x ++ (e ++ t)) a k=e:=by
 unfold partB
 have z:(x ++ (e ++ t)).size=a + (k + t.size):=by rw [ByteArray.size_append,ByteArray.size_append,he,hx]
 rw [show min a (x ++ (e ++ t)).size=a by omega]
 rw [ext_right x (e ++ t) a hx,ap_assoc]
 exact ext_left e (t ++ zeros k) k he
theorem se_head {m:Msg} (x0:0≤m.xid) (x1:m.xid≤4294967295) (k0:0≤m.kind) (k1:m.kind≤29):numB (allM m) 1 1=m.kind∧numB (allM m) 4 4=m.xid∧sB (allM m)=bodyM m:=by
 have e1:allM m=pb 4 1 ++ (pb m.kind 1 ++ (pb (8 + ((bodyM m).size:Int)) 2 ++ (pb m.xid 4 ++ bodyM m))):=all_eq m
 have e2:allM m=(pb 4 1 ++ (pb m.kind 1 ++ pb (8 + ((bodyM m).size:Int)) 2)) ++ (pb m.xid 4 ++ bodyM m):=by rw [e1];simp only [ap_assoc]
 have e3:allM m=(pb 4 1 ++ (pb m.kind 1 ++ (pb (8 + ((bodyM m).size:Int)) 2 ++ pb m.xid 4))) ++ bodyM m:=by rw [e1];simp only [ap_assoc]
 refine ⟨?_,?_,?_⟩
 ·rw [e1];exact nb1 _ _ _ 1 (pb_size _ _) k0 (by omega)
 ·rw [e2];exact nb4 _ _ _ 4 (by simp only [ByteArray.size_append,pb_size]) x0 (by omega)
 ·unfold sB;rw [e3];exact ext_right _ _ 8 (by simp only [ByteArray.size_append,pb_size])
theorem bks_seem:∀ (l:List B3) (f:Nat),l.length≤f→(∀ x ∈ l,bkB x=true)→bksB f (bksS l)=l
  | [],f,_,_=>bksB_no (by unfold bkOkB;rfl) f
  | b :: l,f,hf,h=>by
    obtain ⟨f,rfl⟩:∃ k,f=k + 1:=⟨f - 1,by simp at hf;omega⟩
    have hb:=h b (by simp)
    have hb':=hb
    unfold bkB at hb
    simp only [Bool.and_eq_true,inB_iff,decide_eq_true_eq] at hb
    obtain ⟨⟨⟨⟨h1,h2⟩,h3,h4⟩,h5⟩,h6⟩:=hb
    obtain ⟨a1,a2,a3⟩:=wat_back h1 h2
    have hz:=encS_le b.2.2
    show bksB (f + 1) (bkS b ++ bksS l)=b :: l
    have e:bkS b ++ bksS l=pb (16 + ((encodeS b.2.2).size:Int)) 2 ++ (pb b.2.1 2 ++ (pb (wat b.1) 4 ++ ((ff4 ++ gap4) ++ (encodeS b.2.2 ++ bksS l)))):=by unfold bkS;simp only [ap_assoc]
    have e4:bkS b ++ bksS l=(pb (16 + ((encodeS b.2.2).size:Int)) 2 ++ pb b.2.1 2) ++ (pb (wat b.1) 4 ++ ((ff4 ++ gap4) ++ (encodeS b.2.2 ++ bksS l))):=by rw [e];simp only [ap_assoc]
    have e16:bkS b ++ bksS l=(pb (16 + ((encodeS b.2.2).size:Int)) 2 ++ (pb b.2.1 2 ++ (pb (wat b.1) 4 ++ (ff4 ++ gap4)))) ++ (encodeS b.2.2 ++ bksS l):=by rw [e];simp only [ap_assoc]
    have n0:numB (bkS b ++ bksS l) 0 2=16 + ((encodeS b.2.2).size:Int):=by rw [e];exact nb2z _ _ (by omega) (by omega)
    have n2:numB (bkS b ++ bksS l) 2 2=b.2.1:=by rw [e];exact nb2 _ _ _ 2 (pb_size _ _) h3 h4
    have n4:numB (bkS b ++ bksS l) 4 4=wat b.1:=by rw [e4];exact nb4 _ _ _ 4 (by simp only [ByteArray.size_append,pb_size]) a2 a3
    have hs:(bkS b ++ bksS l).size=16 + (encodeS b.2.2).size + (bksS l).size:=by rw [ByteArray.size_append,bkS_size]
    have ok:bkOkB (bkS b ++ bksS l)=true:=by
      unfold bkOkB
      rw [n0,hs]
      simp
      omega
    have hp:(pb (16 + ((encodeS b.2.2).size:Int)) 2 ++ (pb b.2.1 2 ++ (pb (wat b.1) 4 ++ (ff4 ++ gap4)))).size=16:=by simp only [ByteArray.size_append,pb_size];rfl
    have tn:(16 + ((encodeS b.2.2).size:Int)).toNat=16 + (encodeS b.2.2).size:=by omega
    have x1:(bkS b ++ bksS l).extract 16 (16 + (encodeS b.2.2).size)=encodeS b.2.2:=by
      rw [e16]
      have:=Mt.extract_mid (pb (16 + ((encodeS b.2.2).size:Int)) 2 ++ (pb b.2.1 2 ++ (pb (wat b.1) 4 ++ (ff4 ++ gap4)))) (encodeS b.2.2) (bksS l)
      rwa [hp] at this
    have x2:(bkS b ++ bksS l).extract (16 + (encodeS b.2.2).size) (bkS b ++ bksS l).size=bksS l:=ext_right (bkS b) (bksS l) _ (bkS_size b)
    have o:bkO (bkS b ++ bksS l)=b:=by
      unfold bkO
      rw [n0,n2,n4,tn,x1,a1,acts_enc h6]
    rw [bksB,if_pos ok,o,n0,tn,x2,bks_seem l f (by simp at hf;omega) (fun x hx=>h x (by simp [hx]))]
theorem seems_all (m:Ms) (u:MU m) (hr:rightM m.msg=true):seM (allM m.msg)=m.msg:=by
 obtain ⟨x0,x1,ho,hb⟩:=right_parts hr
 obtain ⟨k0,k1⟩:=own_kind ho
 obtain ⟨hK,hX,hR⟩:=se_head x0 x1 k0 k1
 have B:=bare_of hb
 have ut:=u.t
 have ue:=u.u
 have es:m.msg.sp=m.en.sp:=rfl
 have et:m.msg.ts=m.ts:=rfl
 rw [← et] at ut
 unfold seM
 rw [hK,hX,hR]
 clear hK hX hR hr hb u k0 k1 et
 have ef:∀ s:Sp,s=m.en.sp→rightX s=0→decX s.tab (encX s)=(s,0):=fun s hs h=>by subst hs;exact decX_enc (ms_fine ue h) h
 have ef':=ef m.msg.sp es
 clear ef es ue
 generalize m.msg=M at *
 clear m
 rcases kinds M.kind with k | k | k | k | k | k | k | k | k | k | k | k
 case inr.inr.inr.inr.inr.inr.inr.inr.inr.inr.inr =>
  exfalso
  obtain ⟨k0,k1,k2,k3,k12,k13,k14,k15,k20,k21,k29⟩:=k
  simp only [beq_eq_false_iff_ne] at k0 k1 k2 k3 k12 k13 k14 k15 k20 k21 k29
  simp [ownB, *] at ho
 ·clear ef'
  simp only [k]
  exact msg_ext k.symm rfl (B.cmd (by omega) (by omega) (by omega)).symm (B.chk (by omega)).symm (B.pri (by omega)).symm (B.ts (by omega)).symm (B.sp (by omega)).symm (B.gid (by omega)).symm (B.gkd (by omega)).symm (B.gb (by omega)).symm (B.mid (by omega)).symm (B.mra (by omega)).symm (B.mbu (by omega)).symm (B.typ (by omega)).symm (B.cod (by omega)).symm (B.prt (by omega) (by omega)).symm (B.live (by omega)).symm (B.la (by omega)).symm (B.dat (by omega) (by omega) (by omega) (by omega)).symm
 ·have eb:bodyM M=pb M.typ 2 ++ (pb M.cod 2 ++ M.dat):=by unfold bodyM;rw [if_pos k];simp only [ap_assoc]
  have eb2:bodyM M=(pb M.typ 2 ++ pb M.cod 2) ++ M.dat:=by rw [eb];simp only [ap_assoc]
  unfold ownB at ho
  simp only [k] at ho
  simp [inB_iff] at ho
  have n1:numB (bodyM M) 0 2=M.typ:=by rw [eb];exact nb2z _ _ ho.1.1.1 ho.1.1.2
  have n2:numB (bodyM M) 2 2=M.cod:=by rw [eb];exact nb2 _ _ _ 2 (pb_size _ _) ho.1.2.1 ho.1.2.2
  have n3:(bodyM M).extract 4 (bodyM M).size=M.dat:=by rw [eb2];exact ext_right _ _ 4 (by simp only [ByteArray.size_append,pb_size])
  rw [if_pos k,n1,n2,n3]
  exact msg_ext rfl rfl (B.cmd (by omega) (by omega) (by omega)).symm (B.chk (by omega)).symm (B.pri (by omega)).symm (B.ts (by omega)).symm (B.sp (by omega)).symm (B.gid (by omega)).symm (B.gkd (by omega)).symm (B.gb (by omega)).symm (B.mid (by omega)).symm (B.mra (by omega)).symm (B.mbu (by omega)).symm rfl rfl (B.prt (by omega) (by omega)).symm (B.live (by omega)).symm (B.la (by omega)).symm rfl
 ·have eb:bodyM M=M.dat:=by unfold bodyM;rw [if_neg (by omega),if_pos (.inl k)]
  rw [eb,if_neg (by omega),if_pos (.inl k)]
  exact msg_ext rfl rfl (B.cmd (by omega) (by omega) (by omega)).symm (B.chk (by omega)).symm (B.pri (by omega)).symm (B.ts (by omega)).symm (B.sp (by omega)).symm (B.gid (by omega)).symm (B.gkd (by omega)).symm (B.gb (by omega)).symm (B.mid (by omega)).symm (B.mra (by omega)).symm (B.mbu (by omega)).symm (B.typ (by omega)).symm (B.cod (by omega)).symm (B.prt (by omega) (by omega)).symm (B.live (by omega)).symm (B.la (by omega)).symm rfl
 ·have eb:bodyM M=M.dat:=by unfold bodyM;rw [if_neg (by omega),if_pos (.inr k)]
  rw [eb,if_neg (by omega),if_pos (.inr k)]
  exact msg_ext rfl rfl (B.cmd (by omega) (by omega) (by omega)).symm (B.chk (by omega)).symm (B.pri (by omega)).symm (B.ts (by omega)).symm (B.sp (by omega)).symm (B.gid (by omega)).symm (B.gkd (by omega)).symm (B.gb (by omega)).symm (B.mid (by omega)).symm (B.mra (by omega)).symm (B.mbu (by omega)).symm (B.typ (by omega)).symm (B.cod (by omega)).symm (B.prt (by omega) (by omega)).symm (B.live (by omega)).symm (B.la (by omega)).symm rfl
 ·have eb:bodyM M=(pb 2 1 ++ gap3 ++ gap4) ++ (pb M.prt 4 ++ (zeros 32 ++ (pb (dwn M.live) 4 ++ zeros 24))):=by
   unfold bodyM;rw [if_neg (by omega),if_neg (by omega),if_pos k];unfold portS;simp only [ap_assoc]
  have eb2:bodyM M=((pb 2 1 ++ gap3 ++ gap4) ++ (pb M.prt 4 ++ zeros 32)) ++ (pb (dwn M.live) 4 ++ zeros 24):=by rw [eb];simp only [ap_assoc]
  unfold ownB at ho
  simp only [k] at ho
  simp [inB_iff] at ho
  have el:(dwn M.live == 0)=M.live:=by cases M.live <;> rfl
  have ed:0≤dwn M.live∧dwn M.live < 4294967296:=by cases M.live <;> decide
  have n1:numB (bodyM M) 8 4=M.prt:=by rw [eb];exact nb4 _ _ _ 8 rfl (by omega) (by omega)
  have n2:numB (bodyM M) 44 4=dwn M.live:=by
   rw [eb2]
   exact nb4 _ _ _ 44 (by simp only [ByteArray.size_append,pb_size,zeros_size];rfl) ed.1 ed.2
  rw [if_neg (by omega),if_neg (by omega),if_pos k,n1,n2,el]
  exact msg_ext rfl rfl (B.cmd (by omega) (by omega) (by omega)).symm (B.chk (by omega)).symm (B.pri (by omega)).symm (B.ts (by omega)).symm (B.sp (by omega)).symm (B.gid (by omega)).symm (B.gkd (by omega)).symm (B.gb (by omega)).symm (B.mid (by omega)).symm (B.mra (by omega)).symm (B.mbu (by omega)).symm (B.typ (by omega)).symm (B.cod (by omega)).symm rfl rfl (B.la (by omega)).symm (B.dat (by omega) (by omega) (by omega) (by omega)).symm
 ·have eb:bodyM M=ff4 ++ (pb M.prt 4 ++ (pb ((encodeS M.la).size:Int) 2 ++ ((gap4 ++ gap2) ++ (encodeS M.la ++ M.dat)))):=by
   unfold bodyM;rw [if_neg (by omega),if_neg (by omega),if_neg (by omega),if_pos k];unfold packS;simp only [ap_assoc]
  have eb2:bodyM M=(ff4 ++ pb M.prt 4) ++ (pb ((encodeS M.la).size:Int) 2 ++ ((gap4 ++ gap2) ++ (encodeS M.la ++ M.dat))):=by rw [eb];simp only [ap_assoc]
  have eb3:bodyM M=(ff4 ++ (pb M.prt 4 ++ (pb ((encodeS M.la).size:Int) 2 ++ (gap4 ++ gap2)))) ++ (encodeS M.la ++ M.dat):=by rw [eb];simp only [ap_assoc]
  have eb4:bodyM M=((ff4 ++ (pb M.prt 4 ++ (pb ((encodeS M.la).size:Int) 2 ++ (gap4 ++ gap2)))) ++ encodeS M.la) ++ M.dat:=by rw [eb];simp only [ap_assoc]
  unfold ownB at ho
  simp only [k] at ho
  simp [inB_iff] at ho
  obtain ⟨⟨⟨p0,p1⟩,p2⟩,p3⟩:=ho
  have hz:=encS_le M.la
  have hp:(ff4 ++ (pb M.prt 4 ++ (pb ((encodeS M.la).size:Int) 2 ++ (gap4 ++ gap2)))).size=16:=by simp only [ByteArray.size_append,pb_size];rfl
  have n1:numB (bodyM M) 4 4=M.prt:=by rw [eb];exact nb4 _ _ _ 4 rfl p0 (by omega)
  have n2:numB (bodyM M) 8 2=((encodeS M.la).size:Int):=by rw [eb2];exact nb2 _ _ _ 8 (by simp only [ByteArray.size_append,pb_size];rfl) (by omega) (by omega)
  have hsz:(bodyM M).size=16 + (encodeS M.la).size + M.dat.size:=by rw [eb4,ByteArray.size_append,ByteArray.size_append,hp]
  have n3:s13 (bodyM M)=(encodeS M.la).size:=by unfold s13;rw [n2,hsz];omega
  have n4:partB (bodyM M) 16 (encodeS M.la).size=encodeS M.la:=by rw [eb3];exact partB_ap _ _ _ 16 _ hp rfl
  have n5:(bodyM M).extract (16 + ((encodeS M.la).size:Int)).toNat (bodyM M).size=M.dat:=by
   rw [show (16 + ((encodeS M.la).size:Int)).toNat=16 + (encodeS M.la).size by omega,eb4]
   exact ext_right _ _ _ (by rw [ByteArray.size_append,hp])
  rw [if_neg (by omega),if_neg (by omega),if_neg (by omega),if_pos k,n1,n3,n4,n2,n5,acts_enc p2]
  exact msg_ext rfl rfl (B.cmd (by omega) (by omega) (by omega)).symm (B.chk (by omega)).symm (B.pri (by omega)).symm (B.ts (by omega)).symm (B.sp (by omega)).symm (B.gid (by omega)).symm (B.gkd (by omega)).symm (B.gb (by omega)).symm (B.mid (by omega)).symm (B.mra (by omega)).symm (B.mbu (by omega)).symm (B.typ (by omega)).symm (B.cod (by omega)).symm rfl (B.live (by omega)).symm rfl rfl
 ·have eb:bodyM M=zeros 16 ++ (pb M.sp.tab 1 ++ (pb M.cmd 1 ++ (gap4 ++ (pb M.pri 2 ++ (ff12 ++ (pb (flg M.chk) 2 ++ (gap2 ++ (Mt.encodeS M.ts ++ encodeX M.sp)))))))):=by
   unfold bodyM;rw [if_neg (by omega),if_neg (by omega),if_neg (by omega),if_neg (by omega),if_pos k];unfold flowS;simp only [ap_assoc]
  unfold ownB at ho
  simp only [k] at ho
  simp [inB_iff,entB] at ho
  obtain ⟨⟨c0,c1⟩,⟨⟨p0,p1⟩,r1⟩,r2⟩:=ho
  have ec:(flg M.chk == 2)=M.chk:=by cases M.chk <;> rfl
  have ed:0≤flg M.chk∧flg M.chk≤65535:=by cases M.chk <;> decide
  have ht:0≤M.sp.tab∧M.sp.tab < 8:=by
   have:tabB M.sp.tab=true:=by
    cases hb:tabB M.sp.tab with
    | true=>rfl
    | false=>unfold rightX at r2;rw [if_pos hb] at r2;cases r2
   simpa [tabB] using this
  have e1:Mt.encodeS M.ts=Mt.encS M.ts:=by unfold Mt.encodeS;rw [if_pos r1]
  have e2:encodeX M.sp=encX M.sp:=by unfold encodeX;rw [if_pos r2]
  rw [e1,e2] at eb
  obtain ⟨w1,w2,w3⟩:=Mt.trip M.ts r1 ut (encX M.sp)
  have ok:=(okF_iff _).2 w1
  have fT:flTs (Mt.encS M.ts ++ encX M.sp)=M.ts:=by unfold flTs;rw [if_pos ok,w2]
  have fN:flN (Mt.encS M.ts ++ encX M.sp)=(Mt.encS M.ts).size:=by unfold flN;rw [if_pos ok,w3]
  have b17:bodyM M=(zeros 16 ++ pb M.sp.tab 1) ++ (pb M.cmd 1 ++ (gap4 ++ (pb M.pri 2 ++ (ff12 ++ (pb (flg M.chk) 2 ++ (gap2 ++ (Mt.encS M.ts ++ encX M.sp))))))):=by rw [eb];simp only [ap_assoc]
  have b22:bodyM M=(zeros 16 ++ (pb M.sp.tab 1 ++ (pb M.cmd 1 ++ gap4))) ++ (pb M.pri 2 ++ (ff12 ++ (pb (flg M.chk) 2 ++ (gap2 ++ (Mt.encS M.ts ++ encX M.sp))))):=by rw [eb];simp only [ap_assoc]
  have b36:bodyM M=(zeros 16 ++ (pb M.sp.tab 1 ++ (pb M.cmd 1 ++ (gap4 ++ (pb M.pri 2 ++ ff12))))) ++ (pb (flg M.chk) 2 ++ (gap2 ++ (Mt.encS M.ts ++ encX M.sp))):=by rw [eb];simp only [ap_assoc]
  have b40:bodyM M=(zeros 16 ++ (pb M.sp.tab 1 ++ (pb M.cmd 1 ++ (gap4 ++ (pb M.pri 2 ++ (ff12 ++ (pb (flg M.chk) 2 ++ gap2))))))) ++ (Mt.encS M.ts ++ encX M.sp):=by rw [eb];simp only [ap_assoc]
  have h40:(zeros 16 ++ (pb M.sp.tab 1 ++ (pb M.cmd 1 ++ (gap4 ++ (pb M.pri 2 ++ (ff12 ++ (pb (flg M.chk) 2 ++ gap2))))))).size=40:=by simp only [ByteArray.size_append,pb_size,zeros_size];rfl
  have n16:numB (bodyM M) 16 1=M.sp.tab:=by rw [eb];exact nb1 _ _ _ 16 (zeros_size 16) ht.1 (by omega)
  have n17:numB (bodyM M) 17 1=M.cmd:=by rw [b17];exact nb1 _ _ _ 17 (by simp only [ByteArray.size_append,pb_size,zeros_size]) c0 (by omega)
  have n22:numB (bodyM M) 22 2=M.pri:=by rw [b22];exact nb2 _ _ _ 22 (by simp only [ByteArray.size_append,pb_size,zeros_size];rfl) p0 p1
  have n36:numB (bodyM M) 36 2=flg M.chk:=by rw [b36];exact nb2 _ _ _ 36 (by simp only [ByteArray.size_append,pb_size,zeros_size];rfl) ed.1 ed.2
  have n40:f14 (bodyM M)=Mt.encS M.ts ++ encX M.sp:=by unfold f14;rw [b40];exact ext_right _ _ 40 h40
  have nX:(bodyM M).extract (40 + ((Mt.encS M.ts).size:Int)).toNat (bodyM M).size=encX M.sp:=by
   have b41:bodyM M=((zeros 16 ++ (pb M.sp.tab 1 ++ (pb M.cmd 1 ++ (gap4 ++ (pb M.pri 2 ++ (ff12 ++ (pb (flg M.chk) 2 ++ gap2))))))) ++ Mt.encS M.ts) ++ encX M.sp:=by rw [b40];simp only [ap_assoc]
   rw [show (40 + ((Mt.encS M.ts).size:Int)).toNat=40 + (Mt.encS M.ts).size by omega,b41]
   exact ext_right _ _ _ (by rw [ByteArray.size_append,h40])
  rw [if_neg (by omega),if_neg (by omega),if_neg (by omega),if_neg (by omega),if_pos k,n40,fT,fN,nX,n16,n17,n22,n36,ec,ef' r2]
  exact msg_ext rfl rfl rfl rfl rfl rfl rfl (B.gid (by omega)).symm (B.gkd (by omega)).symm (B.gb (by omega)).symm (B.mid (by omega)).symm (B.mra (by omega)).symm (B.mbu (by omega)).symm (B.typ (by omega)).symm (B.cod (by omega)).symm (B.prt (by omega) (by omega)).symm (B.live (by omega)).symm (B.la (by omega)).symm (B.dat (by omega) (by omega) (by omega) (by omega)).symm
 ·have eb:bodyM M=pb M.cmd 2 ++ (pb (M.gkd - 1) 1 ++ (gap1 ++ (pb M.gid 4 ++ bksS M.gb))):=by
   unfold bodyM;rw [if_neg (by omega),if_neg (by omega),if_neg (by omega),if_neg (by omega),if_neg (by omega),if_pos k];unfold grpS;simp only [ap_assoc]
  have eb4:bodyM M=(pb M.cmd 2 ++ (pb (M.gkd - 1) 1 ++ gap1)) ++ (pb M.gid 4 ++ bksS M.gb):=by rw [eb];simp only [ap_assoc]
  have eb8:bodyM M=(pb M.cmd 2 ++ (pb (M.gkd - 1) 1 ++ (gap1 ++ pb M.gid 4))) ++ bksS M.gb:=by rw [eb];simp only [ap_assoc]
  unfold ownB at ho
  simp only [k] at ho
  simp [inB_iff] at ho
  obtain ⟨⟨c0,c1⟩,hg⟩:=ho
  obtain ⟨g1,g2,g3,g4,g5,g6⟩:=grB_few hg
  have n0:numB (bodyM M) 0 2=M.cmd:=by rw [eb];exact nb2z _ _ c0 (by omega)
  have n2:numB (bodyM M) 2 1=M.gkd - 1:=by rw [eb];exact nb1 _ _ _ 2 (pb_size _ _) (by omega) (by omega)
  have n4:numB (bodyM M) 4 4=M.gid:=by rw [eb4];exact nb4 _ _ _ 4 (by simp only [ByteArray.size_append,pb_size];rfl) (by omega) (by omega)
  have n8:(bodyM M).extract 8 (bodyM M).size=bksS M.gb:=by rw [eb8];exact ext_right _ _ 8 (by simp only [ByteArray.size_append,pb_size];rfl)
  rw [if_neg (by omega),if_neg (by omega),if_neg (by omega),if_neg (by omega),if_neg (by omega),if_pos k,n0,n2,n4,n8,bks_seem _ 17 (by omega) g6,Int.sub_add_cancel]
  exact msg_ext rfl rfl rfl (B.chk (by omega)).symm (B.pri (by omega)).symm (B.ts (by omega)).symm (B.sp (by omega)).symm rfl rfl rfl (B.mid (by omega)).symm (B.mra (by omega)).symm (B.mbu (by omega)).symm (B.typ (by omega)).symm (B.cod (by omega)).symm (B.prt (by omega) (by omega)).symm (B.live (by omega)).symm (B.la (by omega)).symm (B.dat (by omega) (by omega) (by omega) (by omega)).symm
 ·clear ef'
  simp only [k]
  exact msg_ext k.symm rfl (B.cmd (by omega) (by omega) (by omega)).symm (B.chk (by omega)).symm (B.pri (by omega)).symm (B.ts (by omega)).symm (B.sp (by omega)).symm (B.gid (by omega)).symm (B.gkd (by omega)).symm (B.gb (by omega)).symm (B.mid (by omega)).symm (B.mra (by omega)).symm (B.mbu (by omega)).symm (B.typ (by omega)).symm (B.cod (by omega)).symm (B.prt (by omega) (by omega)).symm (B.live (by omega)).symm (B.la (by omega)).symm (B.dat (by omega) (by omega) (by omega) (by omega)).symm
 ·clear ef'
  simp only [k]
  exact msg_ext k.symm rfl (B.cmd (by omega) (by omega) (by omega)).symm (B.chk (by omega)).symm (B.pri (by omega)).symm (B.ts (by omega)).symm (B.sp (by omega)).symm (B.gid (by omega)).symm (B.gkd (by omega)).symm (B.gb (by omega)).symm (B.mid (by omega)).symm (B.mra (by omega)).symm (B.mbu (by omega)).symm (B.typ (by omega)).symm (B.cod (by omega)).symm (B.prt (by omega) (by omega)).symm (B.live (by omega)).symm (B.la (by omega)).symm (B.dat (by omega) (by omega) (by omega) (by omega)).symm
 ·have eb:bodyM M=pb M.cmd 2 ++ (pb 5 2 ++ (pb M.mid 4 ++ (pb 65552 4 ++ (pb M.mra 4 ++ (pb M.mbu 4 ++ gap4))))):=by
   unfold bodyM;rw [if_neg (by omega),if_neg (by omega),if_neg (by omega),if_neg (by omega),if_neg (by omega),if_neg (by omega),if_pos k];unfold metS;simp only [ap_assoc]
  have b4:bodyM M=(pb M.cmd 2 ++ pb 5 2) ++ (pb M.mid 4 ++ (pb 65552 4 ++ (pb M.mra 4 ++ (pb M.mbu 4 ++ gap4)))):=by rw [eb];simp only [ap_assoc]
  have b12:bodyM M=(pb M.cmd 2 ++ (pb 5 2 ++ (pb M.mid 4 ++ pb 65552 4))) ++ (pb M.mra 4 ++ (pb M.mbu 4 ++ gap4)):=by rw [eb];simp only [ap_assoc]
  have b16:bodyM M=(pb M.cmd 2 ++ (pb 5 2 ++ (pb M.mid 4 ++ (pb 65552 4 ++ pb M.mra 4)))) ++ (pb M.mbu 4 ++ gap4):=by rw [eb];simp only [ap_assoc]
  unfold ownB at ho
  simp only [k] at ho
  simp [inB_iff,meB] at ho
  obtain ⟨⟨c0,c1⟩,⟨⟨a0,a1⟩,b0,b1⟩,d0,d1⟩:=ho
  have n0:numB (bodyM M) 0 2=M.cmd:=by rw [eb];exact nb2z _ _ c0 (by omega)
  have n4:numB (bodyM M) 4 4=M.mid:=by rw [b4];exact nb4 _ _ _ 4 (by simp only [ByteArray.size_append,pb_size]) (by omega) (by omega)
  have n12:numB (bodyM M) 12 4=M.mra:=by rw [b12];exact nb4 _ _ _ 12 (by simp only [ByteArray.size_append,pb_size]) b0 (by omega)
  have n16:numB (bodyM M) 16 4=M.mbu:=by rw [b16];exact nb4 _ _ _ 16 (by simp only [ByteArray.size_append,pb_size]) d0 (by omega)
  rw [if_neg (by omega),if_neg (by omega),if_neg (by omega),if_neg (by omega),if_neg (by omega),if_neg (by omega),if_pos k,n0,n4,n12,n16]
  exact msg_ext rfl rfl rfl (B.chk (by omega)).symm (B.pri (by omega)).symm (B.ts (by omega)).symm (B.sp (by omega)).symm (B.gid (by omega)).symm (B.gkd (by omega)).symm (B.gb (by omega)).symm rfl rfl rfl (B.typ (by omega)).symm (B.cod (by omega)).symm (B.prt (by omega) (by omega)).symm (B.live (by omega)).symm (B.la (by omega)).symm (B.dat (by omega) (by omega) (by omega) (by omega)).symm
end Go.Proofs.YtlcbfdiohcbpbaaGreatDoor

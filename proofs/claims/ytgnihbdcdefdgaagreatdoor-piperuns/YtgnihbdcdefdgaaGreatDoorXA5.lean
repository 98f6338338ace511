import Derived.Test.YtgnihbdcdefdgaaGreatDoorXA4
set_option maxRecDepth 20000
set_option maxHeartbeats 16000000
set_option linter.unusedVariables false
open Go.ChangeShapes Go.WideShapes Go.ChangeAt Go.RowKit
open Go.Proofs.Tryz
namespace Go.Proofs.YtgnihbdcdefdgaaGreatDoor
namespace Gp
def Wi (ga a:Option Addr):Prop:=∀ gb o,a=some ⟨gb,o,none⟩→∃ o',ga=some ⟨gb,o',none⟩
theorem wi_none (ga:Option Addr):Wi ga none:=fun _ _ e=>by cases e
theorem wi_self (ga:Option Addr):Wi ga ga:=fun _ o e=>⟨o,e⟩
theorem wi_sub (b o o':Nat):Wi (some ⟨b,o,none⟩) (some ⟨b,o',none⟩):=fun _ _ e=>by cases e;exact⟨o,rfl⟩
def refL (k:Int) (l:List Bk) (live:List Bool) (n:Int):List Bk :=
 if k=1∨k=3 then l else if k=4 then (l.filter fun b=>alvB live b.wa).take 1 else if k=2 then atL (l.filter (mayB live)) n else []
theorem choose_ref {l:List Bk} (hwe:∀ b∈l,b.we≤1099511627776) (k:Int) (live:List Bool) (n:Int):chooseL k l live n=refL k l live n:=by
 unfold chooseL refL;rw[filt_two];have hW:Wt (l.filter (mayB live)):=fun b hb=>by
  obtain⟨h1,h2⟩:=List.mem_filter.1 hb;exact⟨by simp only[mayB,Bool.and_eq_true,decide_eq_true_eq]at h2;exact h2.2,hwe b h1⟩
 rw[pick_at hW]
theorem filt_first {f:Bk→Bool} {l:List Bk} {i:Nat} (hi:i<l.length) (h:∀ j (hj:j<l.length),j<i→f l[j]=false) (hf:f l[i]=true):(l.filter f).take 1=[l[i]]:=by
 have e:l=l.take i++l[i]::l.drop (i+1):=by rw[← List.drop_eq_getElem_cons hi,List.take_append_drop]
 have h0:(l.take i).filter f=[]:=by
  rw[List.filter_eq_nil_iff];intro x hx;obtain⟨j,hj,rfl⟩:=List.getElem_of_mem hx;rw[List.getElem_take];rw[List.length_take]at hj;simp[h j (by omega) (by omega)]
 have e2:l.filter f=l[i]::(l.drop (i+1)).filter f:=by
  conv=>lhs;rw[e]
  rw[List.filter_append,h0,List.nil_append,List.filter_cons,if_pos hf]
 rw[e2];rfl
theorem filt_none {f:Bk→Bool} {l:List Bk} (h:∀ j (hj:j<l.length),j<l.length→f l[j]=false):l.filter f=[]:=by
 rw[List.filter_eq_nil_iff];intro x hx;obtain⟨j,hj,rfl⟩:=List.getElem_of_mem hx;simp[h j hj hj]
theorem tmod_pos (n S:Int) (hS:0<S):(n.tmod S<0→n.tmod S+S=n % S)∧(¬ n.tmod S<0→n.tmod S=n % S)∧-S<n.tmod S∧n.tmod S<S:=by
 have h1:n=n.tmod S+S*n.tdiv S:=(Int.tmod_add_mul_tdiv n S).symm;have h2:n.tmod S<S:=Int.tmod_lt_of_pos n hS;have h3 : -S<n.tmod S:=Int.lt_tmod_of_pos n hS;generalize n.tmod S=t at *
 generalize n.tdiv S=q at *
 refine⟨fun h => ?_,fun h => ?_,h3,h2⟩
 ·rw[h1];have e:t+S*q=(t+S)+S*(q-1):=by rw[Int.mul_sub,Int.mul_one];omega
  rw[e,Int.add_mul_emod_self_left];exact(Int.emod_eq_of_lt (by omega) (by omega)).symm
 ·rw[h1,Int.add_mul_emod_self_left];exact(Int.emod_eq_of_lt (by omega) (by omega)).symm
theorem drop_filt (f:Bk→Bool) (l:List Bk) (i:Nat) (hi:i<l.length):(l.drop i).filter f=(if f l[i]=true then [l[i]] else [])++(l.drop (i+1)).filter f:=by
 rw[List.drop_eq_getElem_cons hi,List.filter_cons];split<;>simp
theorem rchoose_any (g:Gr) (la:Option Addr) (live:List Bool) (lc:Nat) (n:Int) (w:World) (h:ChW w g la live) (hcl:g.l.length≤g.c) (hcm:g.c≤9223372036854775807) (n0 : -9223372036854775808≤n) (n1:n≤9223372036854775807) :
 Calls prog 118 #[gV g,.slice la live.length lc,.int .i64 n] w fun e w'=>∃ a' c',e=.returned (.slice a' (refL g.kd g.l live n).length c')∧Rs w' a' (refL g.kd g.l live n)∧Wi g.a a'∧Below w.heap.size w w':=by
 obtain⟨id,kd,ga,l,gc⟩:=g;obtain⟨hT,hS,hwe,hLs,hln⟩:=h;simp only at hT hS hwe hcl hcm;obtain⟨V,hV⟩:∃ V,w.alloc (.cells #[.int .i64 id,.int .i64 kd,.slice ga l.length gc] 81)=V:=⟨_,rfl⟩
 have GV:Below w.heap.size w V:=by rw[← hV];go_grown
 have zV:w.heap.size<V.heap.size:=by rw[← hV];simp
 have cV:Cg V w.heap.size 0 ⟨id,kd,ga,l,gc⟩:=by rw[← hV];exact Cg.new w ⟨id,kd,ga,l,gc⟩
 have TV:Bs V ga l:=hT.below GV;have HV:Hid (w.alloc (.cells #[.int .i64 id,.int .i64 kd,.slice ga l.length gc] 81)=V):=hV;have HX:Hid (∀ w',Below V.heap.size V w'→(w'.cell? ⟨w.heap.size,1,none⟩=some (.int .i64 kd)∧w'.cell? ⟨w.heap.size,2,none⟩=some (.slice ga l.length gc)∧w.heap.size<w'.heap.size)∧Bs w' ga l∧Below w.heap.size w w'):=(show ∀ w',_ from fun w' k=>⟨⟨(cV.below zV k).2.1,(cV.below zV k).2.2,Nat.lt_of_lt_of_le zV k.size⟩,TV.below k,btr GV k (Nat.le_refl _)⟩)
 have HA:Hid (∀ (b:Bk) w',Below V.heap.size V w'→Calls prog 162 #[bkV b,.slice la live.length lc] w' fun e w''=>e=.returned (.bool (alvB live b.wa))∧Below w'.heap.size w' w''):=(show ∀ (b:Bk) w',_ from fun b w' k=>ralive_any b la live lc w' ((hLs.below GV).below k) hln)
 have HN:Hid (l.length≤100):=hS.n;have HWe:Hid (∀ b∈l,b.we≤1099511627776):=hwe;have HSum:Hid (∀ q,0≤sumW ((l.take q).filter (mayB live))∧sumW ((l.take q).filter (mayB live))≤109951162777600):=(show ∀ q,_ from fun q=>by
  have hW:Wt ((l.take q).filter (mayB live)):=fun b hb=>by
   obtain⟨h1,h2⟩:=List.mem_filter.1 hb;exact⟨by simp only[mayB,Bool.and_eq_true,decide_eq_true_eq]at h2;exact h2.2,hwe b (List.mem_of_mem_take h1)⟩
  have h1:=hW.sum;have h2:=filt_len (mayB live) l q;have h3:=hS.n;omega)
 have HWf:Hid (Wt (l.filter (mayB live))):=(show Wt _ from fun b hb=>by
  obtain⟨h1,h2⟩:=List.mem_filter.1 hb;exact⟨by simp only[mayB,Bool.and_eq_true,decide_eq_true_eq]at h2;exact h2.2,hwe b h1⟩)
 obtain⟨⟨c1,c2,z0⟩,_,_⟩:=HX.out V (Below.refl _ _);show Calls prog 118 #[.agg #[.int .i64 id,.int .i64 kd,.slice ga l.length gc],.slice la live.length lc,.int .i64 n] w fun e w'=>∃ a' c',e=.returned (.slice a' (refL kd l live n).length c')∧Rs w' a' (refL kd l live n)∧Wi ga a'∧Below w.heap.size w w';clear hT hS hwe hLs hln hV cV zV;have D:(kd==1)=false→(kd==3)=false→(kd==4)=false→Calls prog 118 #[.agg #[.int .i64 id,.int .i64 kd,.slice ga l.length gc],.slice la live.length lc,.int .i64 n] w fun e w'=>∃ a' c',e=.returned (.slice a' (refL kd l live n).length c')∧Rs w' a' (refL kd l live n)∧Wi ga a'∧Below w.heap.size w w':=by
  intro hb1 hb3 hb4;have HR:Hid (refL kd l live n=if kd=2 then atL (l.filter (mayB live)) n else []):=(show _=_ by
   simp at hb1 hb3 hb4;unfold refL;rw[if_neg (by omega),if_neg hb4])
  clear TV GV;go_enter func118,ntmps118;go_wp2_with fail;rw[HV.out];clear c1 c2;go_loopw [7,8] (fun v7 v wr=>∃ q:Nat,q≤l.length∧v=.int .i64 q∧v7=.int .i64 (sumW ((l.take q).filter (mayB live)))∧Below V.heap.size V wr) (fun _ v _=>l.length-(intOf v).toNat);case atStart=>exact⟨0,Nat.zero_le _,rfl,rfl,Below.refl _ _⟩
  case round =>
   obtain⟨q,hq,rfl,rfl,hbel⟩:=hrel;have hn:=HN.out;obtain⟨⟨c1,c2,z0⟩,hBs,hw⟩:=HX.out _ hbel;by_cases hlt:q<l.length
   ·obtain⟨b,o,rfl,hb,hc⟩:=hBs.at hlt;obtain⟨d0,d1,d2⟩:=hc q hlt;have hs0:=HSum.out q;have hs1:=(HSum.out (q+1)).2;have HFn:Hid (sumW ((l.take (q+1)).filter (mayB live))=sumW ((l.take q).filter (mayB live))+(if mayB live l[q]=true then l[q].we else 0)):=(show _=_ by
     rw[filt_snoc _ l q hlt,sumW_append];split<;>simp[sumW])
    have hw0:=HWe.out l[q] (List.getElem_mem hlt);have HAq:Hid (∀ w',Below V.heap.size V w'→Calls prog 162 #[bkV l[q],.slice la live.length lc] w' fun e w''=>e=.returned (.bool (alvB live l[q].wa))∧Below w'.heap.size w' w''):=HA.out l[q];have HB:Hid (Below V.heap.size V wr):=hbel;have HM:Hid (mayB live l[q]=(alvB live l[q].wa&&decide (0<l[q].we))):=(show _=_ from rfl)
    clear hc hBs hw hbel;generalize mayB live l[q]=MB at *
    generalize alvB live l[q].wa=AB at *
    generalize l[q]=X at *
    obtain⟨wa,we,xa,xl,xc⟩:=X;simp only at d0 d1 d2 hw0 HFn HM;have HBa:Hid (∀ o:Obj,Below V.heap.size V (wr.alloc o)):=(show ∀ o:Obj,_ from fun o=>btr HB.out (by go_grown) (Nat.le_refl _))
    have zr:V.heap.size≤wr.heap.size:=HB.out.size;cases AB with
    | false =>
      have HF1:Hid (sumW ((l.take (q+1)).filter (mayB live))=sumW ((l.take q).filter (mayB live))):=(show _=_ by rw[HFn.out,HM.out];simp)
      clear HFn hs1;go_wp2_with fail;refine(HAq.out _ (HBa.out _)).mono ?_;rintro e w2 ⟨rfl,g2⟩;have hb2:=btr (HBa.out (.cells #[.int .i64 wa,.int .i64 we,.slice xa xl.length xc] 93)) g2 (Nat.le_refl _);clear g2;go_wp2_with fail;go_roundw;case rel=>exact⟨q+1,by omega,by go_num,by rw[HF1.out],hb2⟩
      case measure=>simp[intOf];omega
    | true =>
      by_cases hwe:0<we
      ·have hwb:decide (0<we)=true:=decide_eq_true hwe;have HF1:Hid (sumW ((l.take (q+1)).filter (mayB live))=sumW ((l.take q).filter (mayB live))+we):=(show _=_ by rw[HFn.out,HM.out,hwb];simp)
       have hs2:sumW ((l.take q).filter (mayB live))+we≤109951162777600:=by rw[← HF1.out];exact hs1
       clear HFn hs1;generalize sumW ((l.take q).filter (mayB live))=S at *
       go_wp2_with fail;refine(HAq.out _ (HBa.out _)).mono ?_;rintro e w2 ⟨rfl,g2⟩;have hb2:=btr (HBa.out (.cells #[.int .i64 wa,.int .i64 we,.slice xa xl.length xc] 93)) g2 (Nat.le_refl _);have k0:w2.cell? ⟨wr.heap.size,0,none⟩=some (.int .i64 wa):=(g2.cell (p:=⟨wr.heap.size,0,none⟩) (by simp)).trans (by simp);have k1:w2.cell? ⟨wr.heap.size,1,none⟩=some (.int .i64 we):=(g2.cell (p:=⟨wr.heap.size,1,none⟩) (by simp)).trans (by simp);clear g2;go_wp2_with fail;go_roundw;case rel=>exact⟨q+1,by omega,by go_num,by rw[HF1.out],hb2⟩
       case measure=>simp[intOf];omega
      ·have hwb:decide (0<we)=false:=decide_eq_false hwe;have HF1:Hid (sumW ((l.take (q+1)).filter (mayB live))=sumW ((l.take q).filter (mayB live))):=(show _=_ by rw[HFn.out,HM.out,hwb];simp)
       clear HFn hs1 hwe;go_wp2_with fail;refine(HAq.out _ (HBa.out _)).mono ?_;rintro e w2 ⟨rfl,g2⟩;have hb2:=btr (HBa.out (.cells #[.int .i64 wa,.int .i64 we,.slice xa xl.length xc] 93)) g2 (Nat.le_refl _);have k0:w2.cell? ⟨wr.heap.size,0,none⟩=some (.int .i64 wa):=(g2.cell (p:=⟨wr.heap.size,0,none⟩) (by simp)).trans (by simp);have k1:w2.cell? ⟨wr.heap.size,1,none⟩=some (.int .i64 we):=(g2.cell (p:=⟨wr.heap.size,1,none⟩) (by simp)).trans (by simp);clear g2;go_wp2_with fail;go_roundw;case rel=>exact⟨q+1,by omega,by go_num,by rw[HF1.out],hb2⟩
       case measure=>simp[intOf];omega
   ·have e:q=l.length:=by omega
    subst e;have hsL:=HSum.out l.length;rw[List.take_length]at hsL;rw[List.take_length];have HWf':=HWf.out;by_cases hk:kd=2
    ·subst hk;have HE:Hid (refL 2 l live n=atL (l.filter (mayB live)) n):=(show _=_ by rw[HR.out,if_pos rfl])
     by_cases hz:l.filter (mayB live)=[]
     ·have HE2:Hid (refL 2 l live n=[]):=(show _=_ by rw[HE.out,hz];rfl)
      have hs:sumW (l.filter (mayB live))=0:=by rw[hz];rfl
      rw[hs];clear hs hz hBs;go_wp2_with fail;go_ret;rw[HE2.out];first|exact⟨_,_,rfl,.inl rfl,wi_none _,hw⟩|exact⟨none,⟨0,rfl⟩,.inl rfl,wi_none _,hw⟩|exact⟨none,0,.inl rfl,wi_none _,hw⟩
     ·have hp:=HWf.out.pos hz;have HE2:Hid (refL 2 l live n=goAt (l.filter (mayB live)) (n % sumW (l.filter (mayB live)))):=(show _=_ by rw[HE.out];unfold atL;rw[if_neg hz])
      obtain⟨t1,t2,t3,t4⟩:=tmod_pos n _ hp;have hm0:=Int.emod_nonneg n (show sumW (l.filter (mayB live))≠0 by omega);have hm1:=Int.emod_lt_of_pos n hp;have HS0:Hid (goAt ((l.drop 0).filter (mayB live)) (n % sumW (l.filter (mayB live)))=goAt (l.filter (mayB live)) (n % sumW (l.filter (mayB live)))∧n % sumW (l.filter (mayB live))<sumW ((l.drop 0).filter (mayB live))):=(show _∧_ from⟨by rw[List.drop_zero],by rw[List.drop_zero];exact hm1⟩)
      have hsb:(sumW (l.filter (mayB live))==0)=false:=by simp;omega
      generalize hMM:n % sumW (l.filter (mayB live))=M at *
      have HM1:Hid (0≤M):=hm0;have hS1:=hsL.2;have HE3:Hid (∀ x,goAt (l.filter (mayB live)) M=x→refL 2 l live n=x):=(show ∀ x,_ from fun x hx=>by rw[HE2.out,hx])
      have HB:Hid (Below V.heap.size V wr):=hbel;clear hMM hBs HE HE2 HR HWf';generalize sumW (l.filter (mayB live))=S at *
      obtain⟨T,hT⟩:∃ T,n.tmod S=T:=⟨_,rfl⟩
      rw[hT]at t1 t2 t3 t4;have hSS:(S==0)=false:=hsb;by_cases hneg:T<0
      ·have hTM:T+S=M:=t1 hneg;have hnb:decide (T<0)=true:=decide_eq_true hneg;clear t1 t2;go_wp2_with fail;go_loopw [10,11] (fun v10 v wr2=>∃ (q:Nat) (r:Int),q≤l.length∧v=.int .i64 q∧v10=.int .i64 r∧0≤r∧r≤M∧Hid (goAt ((l.drop q).filter (mayB live)) r=goAt (l.filter (mayB live)) M∧r<sumW ((l.drop q).filter (mayB live)))∧Below V.heap.size V wr2) (fun _ v _=>l.length-(intOf v).toNat);case atStart=>exact⟨0,M,Nat.zero_le _,rfl,rfl,HM1.out,Int.le_refl _,HS0,HB.out⟩
       case round =>
        obtain⟨q,r,hq,rfl,rfl,hr0,hrM,HI,hbel2⟩:=hrel;obtain⟨⟨c1,c2,z0⟩,hBs,hw⟩:=HX.out _ hbel2;by_cases hlt:q<l.length
        ·obtain⟨b,o,rfl,hb,hc⟩:=hBs.at hlt;obtain⟨d0,d1,d2⟩:=hc q hlt;have HSub:Hid (∀ w',Below V.heap.size V w'→Rs w' (some ⟨b,o+q*3,none⟩) [l[q]]):=(show ∀ w',_ from fun w' k=>by
          obtain⟨b',o',e,hb',hc'⟩:=(HX.out w' k).2.1.at hlt;cases e;exact sub_rs hc' hb' q hlt)
         have HD:Hid ((l.drop q).filter (mayB live)=(if mayB live l[q]=true then [l[q]] else [])++(l.drop (q+1)).filter (mayB live)):=drop_filt _ l q hlt;have hw0:=HWe.out l[q] (List.getElem_mem hlt);have HAq:Hid (∀ w',Below V.heap.size V w'→Calls prog 162 #[bkV l[q],.slice la live.length lc] w' fun e w''=>e=.returned (.bool (alvB live l[q].wa))∧Below w'.heap.size w' w''):=HA.out l[q];have HM:Hid (mayB live l[q]=(alvB live l[q].wa&&decide (0<l[q].we))):=(show _=_ from rfl)
         have zr:V.heap.size≤wr.heap.size:=hbel2.size;have HBa:Hid (∀ o:Obj,Below V.heap.size V (wr.alloc o)):=(show ∀ o:Obj,_ from fun o=>btr hbel2 (by go_grown) (Nat.le_refl _))
         clear hc hBs hw hbel2;generalize mayB live l[q]=MB at *
         generalize alvB live l[q].wa=AB at *
         generalize l[q]=X at *
         obtain⟨wa,we,xa,xl,xc⟩:=X;simp only at d0 d1 d2 hw0 HD HM;cases AB with
         | false =>
           have HI1:Hid (goAt ((l.drop (q+1)).filter (mayB live)) r=goAt (l.filter (mayB live)) M∧r<sumW ((l.drop (q+1)).filter (mayB live))):=(show _∧_ by
            have e:(l.drop q).filter (mayB live)=(l.drop (q+1)).filter (mayB live):=by rw[HD.out,HM.out];simp
            rw[← e];exact HI.out)
           clear HI HD;go_wp2_with fail;refine(HAq.out _ (HBa.out _)).mono ?_;rintro e w2 ⟨rfl,g2⟩;have hb2:=btr (HBa.out (.cells #[.int .i64 wa,.int .i64 we,.slice xa xl.length xc] 93)) g2 (Nat.le_refl _);clear g2;go_wp2_with fail;go_roundw;case rel=>exact⟨q+1,r,by omega,by go_num,rfl,hr0,hrM,HI1,hb2⟩
           case measure=>simp[intOf];omega
         | true =>
           by_cases hwe:0<we
           ·have hwb:decide (0<we)=true:=decide_eq_true hwe;have hwb2:decide (we≤0)=false:=decide_eq_false (by omega);have hD2:(l.drop q).filter (mayB live)=Bk.mk wa we xa xl xc::(l.drop (q+1)).filter (mayB live):=by rw[HD.out,HM.out,hwb];simp
            have hgo:goAt ((l.drop q).filter (mayB live)) r=if r<we then [Bk.mk wa we xa xl xc] else goAt ((l.drop (q+1)).filter (mayB live)) (r-we):=by rw[hD2,goAt]
            have hsm:sumW ((l.drop q).filter (mayB live))=we+sumW ((l.drop (q+1)).filter (mayB live)):=by rw[hD2,sumW]
            by_cases hrl:r<we
            ·have hrb:decide (r<we)=true:=decide_eq_true hrl;have HE:Hid (refL 2 l live n=[Bk.mk wa we xa xl xc]):=(show _=_ from HE3.out _ (by rw[← HI.out.1,hgo,if_pos hrl]))
             clear HI HD hD2 hgo hsm;go_wp2_with fail;refine(HAq.out _ (HBa.out _)).mono ?_;rintro e w2 ⟨rfl,g2⟩;have hb2:=btr (HBa.out (.cells #[.int .i64 wa,.int .i64 we,.slice xa xl.length xc] 93)) g2 (Nat.le_refl _);have k1:w2.cell? ⟨wr.heap.size,1,none⟩=some (.int .i64 we):=(g2.cell (p:=⟨wr.heap.size,1,none⟩) (by simp)).trans (by simp);obtain⟨⟨x1,x2,z2⟩,_,hw2⟩:=HX.out _ hb2;have HS2:Hid (Rs w2 (some ⟨b,o+q*3,none⟩) [Bk.mk wa we xa xl xc]):=HSub.out w2 hb2;clear g2 c1 c2 d0 d1 d2;go_wp2_with fail;go_ret;rw[HE.out];exact⟨_,_,rfl,HS2.out,wi_sub _ _ _,hw2⟩
            ·have hrb:decide (r<we)=false:=decide_eq_false hrl;have HI1:Hid (goAt ((l.drop (q+1)).filter (mayB live)) (r-we)=goAt (l.filter (mayB live)) M∧r-we<sumW ((l.drop (q+1)).filter (mayB live))):=(show _∧_ by
              refine⟨by rw[← HI.out.1,hgo,if_neg hrl],?_⟩;have:=HI.out.2;omega)
             clear HI HD hD2 hgo hsm;go_wp2_with fail;refine(HAq.out _ (HBa.out _)).mono ?_;rintro e w2 ⟨rfl,g2⟩;have hb2:=btr (HBa.out (.cells #[.int .i64 wa,.int .i64 we,.slice xa xl.length xc] 93)) g2 (Nat.le_refl _);have k1:w2.cell? ⟨wr.heap.size,1,none⟩=some (.int .i64 we):=(g2.cell (p:=⟨wr.heap.size,1,none⟩) (by simp)).trans (by simp);clear g2;go_wp2_with fail;go_roundw;case rel=>exact⟨q+1,r-we,by omega,by go_num,by go_num,by omega,by omega,HI1,hb2⟩
             case measure=>simp[intOf];omega
           ·have hwb:decide (0<we)=false:=decide_eq_false hwe;have hwb2:decide (we≤0)=true:=decide_eq_true (by omega);have HI1:Hid (goAt ((l.drop (q+1)).filter (mayB live)) r=goAt (l.filter (mayB live)) M∧r<sumW ((l.drop (q+1)).filter (mayB live))):=(show _∧_ by
             have e:(l.drop q).filter (mayB live)=(l.drop (q+1)).filter (mayB live):=by rw[HD.out,HM.out,hwb];simp
             rw[← e];exact HI.out)
            clear HI HD hwe;go_wp2_with fail;refine(HAq.out _ (HBa.out _)).mono ?_;rintro e w2 ⟨rfl,g2⟩;have hb2:=btr (HBa.out (.cells #[.int .i64 wa,.int .i64 we,.slice xa xl.length xc] 93)) g2 (Nat.le_refl _);have k1:w2.cell? ⟨wr.heap.size,1,none⟩=some (.int .i64 we):=(g2.cell (p:=⟨wr.heap.size,1,none⟩) (by simp)).trans (by simp);clear g2;go_wp2_with fail;go_roundw;case rel=>exact⟨q+1,r,by omega,by go_num,rfl,hr0,hrM,HI1,hb2⟩
            case measure=>simp[intOf];omega
        ·exfalso;have:=HI.out.2;rw[List.drop_eq_nil_of_le (by omega),List.filter_nil,sumW]at this;omega
      ·have hTM:T=M:=t2 hneg;have hnb:decide (T<0)=false:=decide_eq_false hneg;clear t1 t2;go_wp2_with fail;go_loopw [10,11] (fun v10 v wr2=>∃ (q:Nat) (r:Int),q≤l.length∧v=.int .i64 q∧v10=.int .i64 r∧0≤r∧r≤M∧Hid (goAt ((l.drop q).filter (mayB live)) r=goAt (l.filter (mayB live)) M∧r<sumW ((l.drop q).filter (mayB live)))∧Below V.heap.size V wr2) (fun _ v _=>l.length-(intOf v).toNat);case atStart=>exact⟨0,M,Nat.zero_le _,rfl,rfl,HM1.out,Int.le_refl _,HS0,HB.out⟩
       case round =>
        obtain⟨q,r,hq,rfl,rfl,hr0,hrM,HI,hbel2⟩:=hrel;obtain⟨⟨c1,c2,z0⟩,hBs,hw⟩:=HX.out _ hbel2;by_cases hlt:q<l.length
        ·obtain⟨b,o,rfl,hb,hc⟩:=hBs.at hlt;obtain⟨d0,d1,d2⟩:=hc q hlt;have HSub:Hid (∀ w',Below V.heap.size V w'→Rs w' (some ⟨b,o+q*3,none⟩) [l[q]]):=(show ∀ w',_ from fun w' k=>by
          obtain⟨b',o',e,hb',hc'⟩:=(HX.out w' k).2.1.at hlt;cases e;exact sub_rs hc' hb' q hlt)
         have HD:Hid ((l.drop q).filter (mayB live)=(if mayB live l[q]=true then [l[q]] else [])++(l.drop (q+1)).filter (mayB live)):=drop_filt _ l q hlt;have hw0:=HWe.out l[q] (List.getElem_mem hlt);have HAq:Hid (∀ w',Below V.heap.size V w'→Calls prog 162 #[bkV l[q],.slice la live.length lc] w' fun e w''=>e=.returned (.bool (alvB live l[q].wa))∧Below w'.heap.size w' w''):=HA.out l[q];have HM:Hid (mayB live l[q]=(alvB live l[q].wa&&decide (0<l[q].we))):=(show _=_ from rfl)
         have zr:V.heap.size≤wr.heap.size:=hbel2.size;have HBa:Hid (∀ o:Obj,Below V.heap.size V (wr.alloc o)):=(show ∀ o:Obj,_ from fun o=>btr hbel2 (by go_grown) (Nat.le_refl _))
         clear hc hBs hw hbel2;generalize mayB live l[q]=MB at *
         generalize alvB live l[q].wa=AB at *
         generalize l[q]=X at *
         obtain⟨wa,we,xa,xl,xc⟩:=X;simp only at d0 d1 d2 hw0 HD HM;cases AB with
         | false =>
           have HI1:Hid (goAt ((l.drop (q+1)).filter (mayB live)) r=goAt (l.filter (mayB live)) M∧r<sumW ((l.drop (q+1)).filter (mayB live))):=(show _∧_ by
            have e:(l.drop q).filter (mayB live)=(l.drop (q+1)).filter (mayB live):=by rw[HD.out,HM.out];simp
            rw[← e];exact HI.out)
           clear HI HD;go_wp2_with fail;refine(HAq.out _ (HBa.out _)).mono ?_;rintro e w2 ⟨rfl,g2⟩;have hb2:=btr (HBa.out (.cells #[.int .i64 wa,.int .i64 we,.slice xa xl.length xc] 93)) g2 (Nat.le_refl _);clear g2;go_wp2_with fail;go_roundw;case rel=>exact⟨q+1,r,by omega,by go_num,rfl,hr0,hrM,HI1,hb2⟩
           case measure=>simp[intOf];omega
         | true =>
           by_cases hwe:0<we
           ·have hwb:decide (0<we)=true:=decide_eq_true hwe;have hwb2:decide (we≤0)=false:=decide_eq_false (by omega);have hD2:(l.drop q).filter (mayB live)=Bk.mk wa we xa xl xc::(l.drop (q+1)).filter (mayB live):=by rw[HD.out,HM.out,hwb];simp
            have hgo:goAt ((l.drop q).filter (mayB live)) r=if r<we then [Bk.mk wa we xa xl xc] else goAt ((l.drop (q+1)).filter (mayB live)) (r-we):=by rw[hD2,goAt]
            have hsm:sumW ((l.drop q).filter (mayB live))=we+sumW ((l.drop (q+1)).filter (mayB live)):=by rw[hD2,sumW]
            by_cases hrl:r<we
            ·have hrb:decide (r<we)=true:=decide_eq_true hrl;have HE:Hid (refL 2 l live n=[Bk.mk wa we xa xl xc]):=(show _=_ from HE3.out _ (by rw[← HI.out.1,hgo,if_pos hrl]))
             clear HI HD hD2 hgo hsm;go_wp2_with fail;refine(HAq.out _ (HBa.out _)).mono ?_;rintro e w2 ⟨rfl,g2⟩;have hb2:=btr (HBa.out (.cells #[.int .i64 wa,.int .i64 we,.slice xa xl.length xc] 93)) g2 (Nat.le_refl _);have k1:w2.cell? ⟨wr.heap.size,1,none⟩=some (.int .i64 we):=(g2.cell (p:=⟨wr.heap.size,1,none⟩) (by simp)).trans (by simp);obtain⟨⟨x1,x2,z2⟩,_,hw2⟩:=HX.out _ hb2;have HS2:Hid (Rs w2 (some ⟨b,o+q*3,none⟩) [Bk.mk wa we xa xl xc]):=HSub.out w2 hb2;clear g2 c1 c2 d0 d1 d2;go_wp2_with fail;go_ret;rw[HE.out];exact⟨_,_,rfl,HS2.out,wi_sub _ _ _,hw2⟩
            ·have hrb:decide (r<we)=false:=decide_eq_false hrl;have HI1:Hid (goAt ((l.drop (q+1)).filter (mayB live)) (r-we)=goAt (l.filter (mayB live)) M∧r-we<sumW ((l.drop (q+1)).filter (mayB live))):=(show _∧_ by
              refine⟨by rw[← HI.out.1,hgo,if_neg hrl],?_⟩;have:=HI.out.2;omega)
             clear HI HD hD2 hgo hsm;go_wp2_with fail;refine(HAq.out _ (HBa.out _)).mono ?_;rintro e w2 ⟨rfl,g2⟩;have hb2:=btr (HBa.out (.cells #[.int .i64 wa,.int .i64 we,.slice xa xl.length xc] 93)) g2 (Nat.le_refl _);have k1:w2.cell? ⟨wr.heap.size,1,none⟩=some (.int .i64 we):=(g2.cell (p:=⟨wr.heap.size,1,none⟩) (by simp)).trans (by simp);clear g2;go_wp2_with fail;go_roundw;case rel=>exact⟨q+1,r-we,by omega,by go_num,by go_num,by omega,by omega,HI1,hb2⟩
             case measure=>simp[intOf];omega
           ·have hwb:decide (0<we)=false:=decide_eq_false hwe;have hwb2:decide (we≤0)=true:=decide_eq_true (by omega);have HI1:Hid (goAt ((l.drop (q+1)).filter (mayB live)) r=goAt (l.filter (mayB live)) M∧r<sumW ((l.drop (q+1)).filter (mayB live))):=(show _∧_ by
             have e:(l.drop q).filter (mayB live)=(l.drop (q+1)).filter (mayB live):=by rw[HD.out,HM.out,hwb];simp
             rw[← e];exact HI.out)
            clear HI HD hwe;go_wp2_with fail;refine(HAq.out _ (HBa.out _)).mono ?_;rintro e w2 ⟨rfl,g2⟩;have hb2:=btr (HBa.out (.cells #[.int .i64 wa,.int .i64 we,.slice xa xl.length xc] 93)) g2 (Nat.le_refl _);have k1:w2.cell? ⟨wr.heap.size,1,none⟩=some (.int .i64 we):=(g2.cell (p:=⟨wr.heap.size,1,none⟩) (by simp)).trans (by simp);clear g2;go_wp2_with fail;go_roundw;case rel=>exact⟨q+1,r,by omega,by go_num,rfl,hr0,hrM,HI1,hb2⟩
            case measure=>simp[intOf];omega
        ·exfalso;have:=HI.out.2;rw[List.drop_eq_nil_of_le (by omega),List.filter_nil,sumW]at this;omega
    ·have HE:Hid (refL kd l live n=[]):=(show _=_ by rw[HR.out,if_neg hk])
     have hkb:(kd != 2)=true:=by simpa using hk
     clear hk hBs;go_wp2_with fail;go_ret;rw[HE.out];exact⟨_,_,rfl,.inl rfl,wi_none _,hw⟩
 rcases kind4 kd with rfl|hk2|rfl|rfl|hkn
 ·have hr:refL 1 l live n=l:=by unfold refL;rw[if_pos (.inl rfl)]
  rw[hr];have HR:Hid (Rs V ga l):=TV.2;clear hr TV;go_enter func118,ntmps118;go_wp2_with fail;rw[HV.out];go_ret;exact⟨_,_,rfl,HR.out,wi_self _,GV⟩
 case inr.inr.inl =>
  have hr:refL 3 l live n=l:=by unfold refL;rw[if_pos (.inr rfl)]
  rw[hr];have HR:Hid (Rs V ga l):=TV.2;clear hr TV;go_enter func118,ntmps118;go_wp2_with fail;rw[HV.out];go_ret;exact⟨_,_,rfl,HR.out,wi_self _,GV⟩
 case inr.inr.inr.inl =>
  have HR:Hid (refL 4 l live n=(l.filter fun b=>alvB live b.wa).take 1):=(show _=_ by unfold refL;rw[if_neg (by decide),if_pos rfl])
  clear TV GV;go_enter func118,ntmps118;go_wp2_with fail;rw[HV.out];clear c1 c2;go_loopw [7,8] (fun v7 v wr=>∃ q:Nat,q≤l.length∧v=.int .i64 q∧v7=.int .i64 0∧Hid (∀ i (hi:i<l.length),i<q→alvB live l[i].wa=false)∧Below V.heap.size V wr) (fun _ v _=>l.length-(intOf v).toNat);case atStart=>exact⟨0,Nat.zero_le _,rfl,rfl,(show ∀ i (hi:i<l.length),_ from fun i _ h=>by omega),Below.refl _ _⟩
  case round =>
   obtain⟨q,hq,rfl,rfl,HP,hbel⟩:=hrel;have hn:=HN.out;obtain⟨⟨c1,c2,z0⟩,hBs,hw⟩:=HX.out _ hbel;by_cases hlt:q<l.length
   ·obtain⟨b,o,rfl,hb,hc⟩:=hBs.at hlt;obtain⟨d0,d1,d2⟩:=hc q hlt;have HSub:Hid (∀ w',Below V.heap.size V w'→Rs w' (some ⟨b,o+q*3,none⟩) [l[q]]):=(show ∀ w',_ from fun w' k=>by
     obtain⟨b',o',e,hb',hc'⟩:=(HX.out w' k).2.1.at hlt;cases e;exact sub_rs hc' hb' q hlt)
    have HF:Hid (alvB live l[q].wa=true→(l.filter fun b=>alvB live b.wa).take 1=[l[q]]):=(show _→_ from fun h=>filt_first (f:=fun b:Bk=>alvB live b.wa) hlt HP.out h)
    have HNx:Hid (alvB live l[q].wa=false→∀ i (hi:i<l.length),i<q+1→alvB live l[i].wa=false):=(show _→_ from fun h i hi hlt'=>by
     by_cases e:i=q
     ·subst e;exact h
     ·exact HP.out i hi (by omega))
    have HAq:Hid (∀ w',Below V.heap.size V w'→Calls prog 162 #[bkV l[q],.slice la live.length lc] w' fun e w''=>e=.returned (.bool (alvB live l[q].wa))∧Below w'.heap.size w' w''):=HA.out l[q];have HB:Hid (Below V.heap.size V wr):=hbel;clear hc hBs hw HP hbel;generalize alvB live l[q].wa=AB at *
    generalize l[q]=X at *
    obtain⟨wa,we,xa,xl,xc⟩:=X;simp only at d0 d1 d2;have HBa:Hid (∀ o:Obj,Below V.heap.size V (wr.alloc o)):=(show ∀ o:Obj,_ from fun o=>btr HB.out (by go_grown) (Nat.le_refl _))
    have zr:V.heap.size≤wr.heap.size:=HB.out.size;cases AB with
    | true =>
      go_wp2_with fail;refine(HAq.out _ (HBa.out _)).mono ?_;rintro e w2 ⟨rfl,g2⟩;have hb2:=btr (HBa.out (.cells #[.int .i64 wa,.int .i64 we,.slice xa xl.length xc] 93)) g2 (Nat.le_refl _);obtain⟨⟨x1,x2,z2⟩,_,hw2⟩:=HX.out _ hb2;have HS2:Hid (Rs w2 (some ⟨b,o+q*3,none⟩) [Bk.mk wa we xa xl xc]):=HSub.out w2 hb2;have HE:Hid (refL 4 l live n=[Bk.mk wa we xa xl xc]):=(show _=_ by rw[HR.out];exact HF.out trivial)
      clear g2 c1 c2 d0 d1 d2;go_wp2_with fail;go_ret;rw[HE.out];exact⟨_,_,rfl,HS2.out,wi_sub _ _ _,hw2⟩
    | false =>
      go_wp2_with fail;refine(HAq.out _ (HBa.out _)).mono ?_;rintro e w2 ⟨rfl,g2⟩;have hb2:=btr (HBa.out (.cells #[.int .i64 wa,.int .i64 we,.slice xa xl.length xc] 93)) g2 (Nat.le_refl _);have k0:w2.cell? ⟨wr.heap.size,0,none⟩=some (.int .i64 wa):=(g2.cell (p:=⟨wr.heap.size,0,none⟩) (by simp)).trans (by simp);have k1:w2.cell? ⟨wr.heap.size,1,none⟩=some (.int .i64 we):=(g2.cell (p:=⟨wr.heap.size,1,none⟩) (by simp)).trans (by simp);have k2:w2.cell? ⟨wr.heap.size,2,none⟩=some (.slice xa xl.length xc):=(g2.cell (p:=⟨wr.heap.size,2,none⟩) (by simp)).trans (by simp);have HB2:Hid (Below V.heap.size V w2):=hb2;have HN':Hid (∀ i (hi:i<l.length),i<q+1→alvB live l[i].wa=false):=HNx.out trivial;clear g2 c1 c2 d0 d1 d2 hb2;go_wp2_with fail;refine(HAq.out _ HB2.out).mono ?_;rintro e w3 ⟨rfl,g3⟩;have hb3:=btr HB2.out g3 (Nat.le_refl _);clear g3;go_wp2_with fail;go_roundw;case rel=>exact⟨q+1,by omega,by go_num,rfl,HN',hb3⟩
      case measure=>simp[intOf];omega
   ·have e:q=l.length:=by omega
    subst e;have HE:Hid (refL 4 l live n=[]):=(show _=_ by rw[HR.out,filt_none (f:=fun b:Bk=>alvB live b.wa) HP.out];rfl)
    clear HP hBs;go_wp2_with fail;go_ret;rw[HE.out];exact⟨_,_,rfl,.inl rfl,wi_none _,hw⟩
 ·subst hk2;exact D rfl rfl rfl
 ·exact D hkn.1 hkn.2.2.1 hkn.2.2.2.1
end Gp
end Go.Proofs.YtgnihbdcdefdgaaGreatDoor

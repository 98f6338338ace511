import Derived.Test.YtgnihbdcdefdgaaGreatDoorXA13
import Derived.Test.YtgnihbdcdefdgaaGreatDoorXA16
import Derived.Test.YtgnihbdcdefdgaaGreatDoorXR1
set_option maxRecDepth 20000
set_option maxHeartbeats 16000000
set_option linter.unusedSimpArgs false
set_option linter.unusedVariables false
open Go.ChangeShapes Go.WideShapes Go.ChangeAt Go.RowKit
open Go.Proofs.Tryz
namespace Go.Proofs.YtgnihbdcdefdgaaGreatDoor
theorem rlook_any (base:Nat) (r:Nat) (S:Nat→Prop) (room:Int) (L:List Fp) (t:Int) (s:Mt.Sn) (hs:Mt.Wf s) (w:World) (h:Rs base w r S room L) (hl:L.length≤1000) :
 Calls prog 36 #[.pointer (some ⟨r,0,none⟩),.int .i64 t,Mt.snV s] w fun e w'=>∃ y:Fe,e=.returned (.tuple #[feV y,.bool (lookP (L.filter (inT t)) s).isSome])∧y.p=(lookP (L.filter (inT t)) s).getD fp0∧FW w' y∧(∀ b,InF y b→b<base)∧Below w.heap.size w w':=by
 obtain⟨W2,hW2⟩:∃ W2,(Mt.rx w s).alloc (.cells zeroE 76)=W2:=⟨_,rfl⟩
 have z2:W2.heap.size=w.heap.size+2:=by rw[← hW2];simp
 have g2:Below w.heap.size w W2:=by rw[← hW2];go_grown
 have HG2:Hid (Below w.heap.size w W2):=g2;have HS2:Hid (W2.rangeAt w.heap.size 0 (Mt.snC s).toList):=(show World.rangeAt _ _ _ _ by
  rw[← hW2];have h1:=range_new w (Mt.snC s) 56;exact range_block h1 (heap_alloc_old _ _ (by simp)))
 have HY2:Hid (W2.there (w.heap.size+1) 0 10):=(show World.there _ _ _ _ by rw[← hW2];have:=there_new (Mt.rx w s) zeroE 76;simpa using this)
 have HLs:Hid (Calls prog 65 #[.pointer (some ⟨r,0,none⟩),.int .i64 t] W2 fun e w'=>∃ v' l',e=.returned v'∧OwnE W2.heap.size w' v' l'∧(∀ x∈l',FW w x∧∀ b,InF x b→b<base)∧l'.map Fe.p=L.filter (inT t)∧Below W2.heap.size W2 w'):=(show Calls _ _ _ _ _ from by
  obtain⟨v,l,h,rfl⟩:=h;refine(rlist_of base r S room v l t W2 (h.below g2) (by simpa using hl)).mono fun e w' ⟨v',a,b,c⟩=>⟨v',_,a,b,fun x hx=>⟨(h.en x (List.mem_filter.1 hx).1).1,(h.en x (List.mem_filter.1 hx).1).2⟩,?_,c⟩
  rw[List.filter_map];rfl)
 have HT:Hid (∀ (x:Fe) w1,FW w1 x→Calls prog 73 #[.slice x.ta x.p.lt.length x.tc,Mt.snV s] w1 fun e w'=>e=.returned (.bool (Mt.takesB x.p.lt s))∧Below w1.heap.size w1 w'):=(show ∀ x w1,_ from fun x w1 h=>Mt.rtakes_any _ _ _ s w1 h.t (by have:=h.nt;omega) hs)
 have hfl:(L.filter (inT t)).length≤1000:=Nat.le_trans (List.length_filter_le _ _) hl;clear h hs g2 hl;generalize L.filter (inT t)=M at *
 go_enter func36,ntmps36;go_wp2_with fail;refine HLs.out.mono ?_;rintro e w3 ⟨v',l,rfl,hO,hW,hM,g3⟩;obtain⟨a,cap,hv',hform⟩:=OwnE.form2 hO;subst hv';have HO:Hid (OwnE W2.heap.size w3 (.slice a l.length cap) l):=hO;have HW:Hid (∀ x∈l,FW w x∧∀ b,InF x b→b<base):=hW;have HMp:Hid (l.map Fe.p=M):=hM;have HF:Hid (a=none∧l=[]∧cap=0∨∃ g,a=some ⟨g,0,none⟩∧W2.heap.size≤g∧g<w3.heap.size∧l.length≤cap∧cap≤maxLen):=hform;have hll:l.length≤1000:=by rw[← hM,List.length_map]at hfl;exact hfl
 have HG3:Hid (Below W2.heap.size W2 w3):=g3;have z3:=g3.size;clear hO hW hM hform g3 HLs hfl hW2;go_wp2_with fail;go_loopw [9] (fun i wr=>∃ (k:Nat),k≤l.length∧i=.int .i64 k∧Hid (∀ j (hj:j<l.length),j<k→Mt.takesB l[j].p.lt s=false)∧Hid (Below w3.heap.size w3 wr)) (fun i _=>l.length-(intOf i).toNat);case atStart=>exact⟨0,Nat.zero_le _,rfl,(show ∀ j,_ from fun j _ hj=>absurd hj (Nat.not_lt_zero _)),Below.refl _ _⟩
 case round =>
  obtain⟨k,hk,rfl,HN,HL⟩:=hrel;have zr:=HL.out.size;have HGr:Hid (Below W2.heap.size W2 wr):=btr HG3.out HL.out (Nat.le_refl _);by_cases hlt:k<l.length
  ·obtain⟨gb,rfl,_,hgb,hnc,_⟩:∃ g,a=some ⟨g,0,none⟩∧W2.heap.size≤g∧g<w3.heap.size∧l.length≤cap∧cap≤maxLen:=by
    rcases HF.out with⟨_,h,_⟩|h
    ·subst h;cases hlt
    ·exact h
   have hB:Be wr gb (k*10) l[k]:=(OwnE.be rfl HO.out k hlt).below hgb HL.out;have HB:Hid (Be wr gb (k*10) l[k]):=hB;have HF0:Hid (FW w l[k]):=(HW.out _ (List.getElem_mem _)).1;have HF1:Hid (∀ b,InF l[k] b→b<base):=(HW.out _ (List.getElem_mem _)).2;have HFy:Hid (FW wr l[k]):=HF0.out.below (HG2.out.trans (HGr.out.mono (by omega)));have HTk:Hid (∀ w1,Below wr.heap.size wr w1→Calls prog 73 #[.slice l[k].ta l[k].p.lt.length l[k].tc,Mt.snV s] w1 fun e w'=>e=.returned (.bool (Mt.takesB l[k].p.lt s))∧Below w1.heap.size w1 w'):=(show ∀ w1,_ from fun w1 g=>HT.out l[k] w1 (HFy.out.below g))
   have HR1:Hid (Mt.takesB l[k].p.lt s=true→lookP M s=some l[k].p):=(show _→_ from fun hq=>by rw[← HMp.out];exact lookP_at hlt HN.out hq)
   have HN2:Hid (Mt.takesB l[k].p.lt s=false→∀ j (hj:j<l.length),j<k+1→Mt.takesB l[j].p.lt s=false):=(show _→∀ j,_ from fun hq j hj h=>by
    by_cases e:j=k
    ·subst e;exact hq
    ·exact HN.out j hj (by omega))
   clear HN;obtain⟨B,hBB⟩:∃ B,B=Mt.takesB l[k].p.lt s:=⟨_,rfl⟩
   rw[← hBB]at HTk HR1 HN2;clear hBB;generalize l[k]=Y at *
   obtain⟨d0,d1,d2,d3,d4,d5,d6,d7,d8,d9⟩:=be_gr hB (by omega);have hSr:wr.rangeAt w.heap.size 0 (Mt.snC s).toList:=range_block HS2.out (HGr.out.block _ (by omega));obtain⟨s0,s1,s2,s3,s4,s5,s6,s7,s8,s9,s10,s11,s12⟩:=sn_gr hSr (by omega);clear hB hSr;go_wp2_with fail;refine wp_region_grow (by kernel_rfl) (by kernel_rfl) ?_;repeat (go_big_quiet_step (first|(go_at_call 73;exact quiet_gr (HTk.out _ (GrT.h _)))))
   refine wpQuiet_nil ?_;rintro w7 hw';have g7:=gr_elim hw';have HG7:Hid (Below w3.heap.size w3 w7):=btr HL.out g7 (Nat.le_refl _);have HB7:Hid (Be w7 gb (k*10) Y):=HB.out.below (by omega) g7;have HF7:Hid (FW w7 Y):=HFy.out.below g7;have z7:=g7.size;clear hw' g7 d0 d1 d2 d3 d4 d5 d6 d7 d8 d9 s0 s1 s2 s3 s4 s5 s6 s7 s8 s9 s10 s11 s12 HTk;cases B with
   | false =>
     go_wp2_with fail;go_roundw;case rel=>exact⟨k+1,by omega,by go_num,HN2.out rfl,HG7⟩
     case measure=>simp[intOf];omega
   | true =>
     have HR:Hid (lookP M s=some Y.p):=HR1.out rfl;have HGw:Hid (Below W2.heap.size W2 w7):=btr HG3.out HG7.out (Nat.le_refl _)
     go_wp2_with (first
      | (refine load_E rfl (.tmp 28) rfl gb (k*10) Y (by simp[Act.eval,Act.put]) HB7.out ?_)
      | (refine store_E rfl (.tmp 6) (.tmp 29) rfl (w.heap.size+1) 0 Y rfl rfl (there_below HY2.out (by omega) HGw.out) ?_;intro U hU bU tU oU;clear hU))
     refine bodyPost_ret (resFb (b:=w.heap.size+1) (x:=Y) rfl rfl bU) rfl ?_;have hg:=oU.below (B:=w.heap.size) (by omega) (HG2.out.trans (HGw.out.mono (by omega)));exact⟨Y,by rw[HR.out];rfl,by rw[HR.out];rfl,HF0.out.below hg,HF1.out,hg⟩
  ·have hk':k=l.length:=by omega
   subst hk';have HR:Hid (lookP M s=none):=(show _=_ by rw[← HMp.out];exact lookP_none (fun j hj=>HN.out j hj hj))
   go_wp2_with (refine store_E rfl (.tmp 6) (.tmp 30) rfl (w.heap.size+1) 0 fe0 rfl rfl (there_below HY2.out (by omega) HGr.out) ?_;intro U hU bU tU oU;clear hU);refine bodyPost_ret (resFb (b:=w.heap.size+1) (x:=fe0) rfl rfl bU) rfl ?_;refine⟨fe0,by rw[HR.out];rfl,by rw[HR.out];rfl,fe0_w _,(fun b hb=>by rcases hb with h|h|h<;>exact absurd rfl h.1),oU.below (by omega) (HG2.out.trans (HGr.out.mono (by omega)))⟩
namespace Dc
theorem takes_any (p:Tp) (MB:Nat→Prop) (lo hi:Nat) (Q:Mq) (n:Int) (s:Mt.Sn) (w:World) (M:Mo MB lo hi w p Q) (hh:hi≤w.heap.size) (hf:Fr.Wf s.pk) (hs:s.data.size≤3000) :
 Calls prog 37 #[ptV p,.int .i64 n,Mt.snV s] w fun e w'=>e=.returned (.bool (passV Q.ms n s.pk).1)∧∃ Q':Mq,Q'.ms=(passV Q.ms n s.pk).2∧Mo MB lo hi w' p Q'∧Kpt MB w w':=by
 have HM:Hid (Mo MB lo hi w p Q):=M;have hml:=M.ml;have hmn:=M.mn;obtain⟨pf,pg,pma,pmn,pmc,pla,pln,plc,ppk⟩:=p;simp only at hmn;subst hmn;clear M;obtain⟨V,hV⟩:∃ V,(w.alloc (.cells (ptC ⟨pf,pg,pma,Q.length,pmc,pla,pln,plc,ppk⟩) 42)).alloc (.cells (Mt.snC s) 56)=V:=⟨_,rfl⟩
 have gV:Below w.heap.size w V:=by rw[← hV];go_grown
 have HgV:Hid (∀ X,X=V→Below w.heap.size w X):=(show ∀ X,_ from fun X e=>by rw[e];exact gV)
 by_cases h1:n<1
 ·have h0:n≤0:=by omega
  have HR:Hid (passV Q.ms n s.pk=(true,Q.ms)):=pass_low (.inl h1);rw[HR.out];clear hV gV;go_enter func37,ntmps37;go_wp2_with fail;go_ret;have g:Below w.heap.size w ((w.alloc (.cells (ptC ⟨pf,pg,pma,Q.length,pmc,pla,pln,plc,ppk⟩) 42)).alloc (.cells (Mt.snC s) 56)):=by go_grown
  exact⟨rfl,Q,rfl,HM.out.low (g.mono hh),Kpt.of_below g⟩
 ·have h0 : ¬ n≤0:=by omega
  by_cases h2:(Q.length:Int)≤n
  ·have HR:Hid (passV Q.ms n s.pk=(true,Q.ms)):=pass_low (.inr h2);rw[HR.out];clear hV gV;go_enter func37,ntmps37;go_wp2_with fail;go_ret;have g:Below w.heap.size w ((w.alloc (.cells (ptC ⟨pf,pg,pma,Q.length,pmc,pla,pln,plc,ppk⟩) 42)).alloc (.cells (Mt.snC s) 56)):=by go_grown
   exact⟨rfl,Q,rfl,HM.out.low (g.mono hh),Kpt.of_below g⟩
  ·obtain⟨i,rfl⟩:=Int.eq_ofNat_of_zero_le (show 0≤n by omega);have hi1:1≤i:=by omega
   have hi0:i≠0:=by omega
   have hi2:i<Q.length:=by omega
   have hi3 : ¬ Q.length≤i:=by omega
   obtain⟨g,o,ha,hg,hn,hc⟩:∃ g o,pma=some ⟨g,o,none⟩∧g<hi∧(lo≤g∧¬ MB g)∧∀ i (h:i<Q.length),w.cell? ⟨g,o+i,none⟩=some (mqP Q[i]):=by
    rcases HM.out.ma with e|h
    ·rw[e]at hi2;cases hi2
    ·exact h
   have ci:=hc i hi2;subst ha;have hgw:g<w.heap.size:=by omega
   cases hqi:Q[i]with
   | none =>
     have HR:Hid (passV Q.ms i s.pk=(true,Q.ms)):=pass_nil hi1 hi2 hqi;rw[HR.out];rw[hqi]at ci;have ci':w.cell? ⟨g,o+i,none⟩=some (.pointer none):=ci;clear hc ci hqi hV gV;go_enter func37,ntmps37;go_wp2_with fail;go_ret;have g:Below w.heap.size w ((w.alloc (.cells (ptC ⟨pf,pg,some ⟨g,o,none⟩,Q.length,pmc,pla,pln,plc,ppk⟩) 42)).alloc (.cells (Mt.snC s) 56)):=by go_grown
     exact⟨rfl,Q,rfl,HM.out.low (g.mono hh),Kpt.of_below g⟩
   | some y =>
     obtain⟨b,r,m,l⟩:=y;have HR:Hid (passV Q.ms i s.pk=(Me.takB l (Fr.bytesS s.pk).size,Q.ms.set i (some (r,m,Me.takeL l (Fr.bytesS s.pk).size)))):=pass_some hi1 hi2 hqi;rw[HR.out];rw[hqi]at ci;have ci':w.cell? ⟨g,o+i,none⟩=some (.pointer (some ⟨b,0,none⟩)):=ci;have hbk:=HM.out.bk i hi2 _ hqi;have Hqi:Hid (Q[i]=some (b,r,m,l)):=hqi;have HB:Hid (∀ w,Calls prog 74 #[Fr.pkV s.pk] w fun x w'=>x=.returned (.tuple #[.string (Fr.bytesS s.pk),.int .i64 (Fr.bytesE s.pk)])∧Below w.heap.size w w'):=(show ∀ w,_ from fun w=>Fr.rbytes_any s.pk w hf hs)
     have hbt:b<hi:=(HM.out.bd _ hbk.2.2).2;have Hbk:Hid (Me.Bk w b r m l∧Me.Fit r m l∧MB b):=hbk;have HVc:Hid (∀ W,Below V.heap.size V W→W.cell? ⟨w.heap.size,2,none⟩=some (.slice (some ⟨g,o,none⟩) Q.length pmc)):=(show ∀ W,_ from fun W gW=>by
      rw[gW.cell (p:=⟨w.heap.size,2,none⟩) (by show w.heap.size<V.heap.size;rw[← hV];simp;omega),← hV];simp)
     have HV:Hid ((w.alloc (.cells (ptC ⟨pf,pg,some ⟨g,o,none⟩,Q.length,pmc,pla,pln,plc,ppk⟩) 42)).alloc (.cells (Mt.snC s) 56)=V):=hV;have HG0:Hid (Below w.heap.size w V):=gV;have zV:w.heap.size<V.heap.size:=by rw[← hV];simp;omega
     have hpk:Fr.pkV s.pk=Mt.pkV s:=pk_val s;rw[hpk]at HB;clear hc ci hqi hbk hf hV gV hpk;generalize Fr.bytesS s.pk=S at *
     generalize Fr.bytesE s.pk=E at *
     go_enter func37,ntmps37;go_wp2_with fail;rw[HV.out];refine(HB.out _).mono ?_;rintro e w1 ⟨rfl,g1⟩;have G1:Below w.heap.size w w1:=btr HG0.out g1 (Nat.le_refl _);have c21:=HVc.out w1 g1;have ci1:w1.cell? ⟨g,o+i,none⟩=some (.pointer (some ⟨b,0,none⟩)):=(G1.cell (p:=⟨g,o+i,none⟩) hgw).trans ci';have HG1:Hid (Below w.heap.size w w1):=G1;have HTk:Hid _:=Me.rtake_any b r m l (S.size:Int) w1 (Hbk.out.1.below G1 (by omega)) Hbk.out.2.1;clear g1 G1;go_wp2_with fail;refine Calls.mono HTk.out ?_;rintro e w2 ⟨rfl,K2,O2⟩;go_wp2_with fail;go_ret;have M1:=HM.out.low (HG1.out.mono hh);exact⟨rfl,_,ms_set _ _ _ _,M1.take hi2 Hqi.out K2 O2,(Kpt.of_below HG1.out).only O2 Hbk.out.2.2⟩
theorem and_xor (m k:Int):bits .and .u64 m (bits .xor .u64 m k)=bits .andNot .u64 m k:=by
 rw[u_and,u_xor,bv_nat,u_not];congr 2;ext i hi;simp only[BitVec.getElem_and,BitVec.getElem_xor,BitVec.getElem_not];cases (bv m)[i]<;>cases (bv k)[i]<;>rfl
structure Ed (lo t:Nat) (w:World) (p:Tp) (W0:World) (f:Nat) (S:Nat→Prop) (P:Nat→List Fp) (rb:Nat) (rG:Int) (rv:Value) (L:List Gp.Gr) (live:List Bool) (MB:Nat→Prop):Prop where
 pf:p.f=some ⟨f,0,none⟩
 fs:∃ LF,Rs W0.heap.size w f S 256 LF∧J P LF∧LF.length≤30
 fb:∀ b,S b→b<lo
 fr:∀ u,u<8→∀ x∈P u,wrongE x=0
 gd:Gd lo w p W0 rb rG rv L live
 lt:lo≤t
 mb:∀ b,MB b→lo≤b
theorem Ed.low {lo t:Nat} {w w':World} {p:Tp} {W0:World} {f:Nat} {S:Nat→Prop} {P:Nat→List Fp} {rb:Nat} {rG:Int} {rv:Value} {L:List Gp.Gr} {live:List Bool} {MB:Nat→Prop} (h:Ed lo t w p W0 f S P rb rG rv L live MB) (hb:Below lo w w'):Ed lo t w' p W0 f S P rb rG rv L live MB:=by
 refine⟨h.pf,?_,h.fb,h.fr,h.gd.low hb,h.lt,h.mb⟩;obtain⟨LF,⟨fv,fl,hF,hp⟩,hJ,hn⟩:=h.fs;have h3:=h.gd.l3;exact⟨LF,⟨fv,fl,hF.keep hb.size (fun b hb'=>hb.block b (h.fb b hb')) (fun b hb' hlt=>hb.block b (by omega)),hp⟩,hJ,hn⟩
theorem Ed.keep {lo t:Nat} {w w':World} {p:Tp} {W0:World} {f:Nat} {S:Nat→Prop} {P:Nat→List Fp} {rb:Nat} {rG:Int} {rv:Value} {L:List Gp.Gr} {live:List Bool} {MB:Nat→Prop} {v v':Value} {O:List Ot} {nb:Nat} (h:Ed lo t w p W0 f S P rb rG rv L live MB) (k:Efm t MB v w v' w') (T:Tr w t p v O nb):Ed lo t w' p W0 f S P rb rG rv L live MB :=
 h.low (k.kpt.below (Nat.le_of_lt (Nat.lt_of_le_of_lt h.lt T.lt)) (fun j hj=>by
  have hl:=h.lt;rcases hj with rfl|hj|hj
  ·exact h.lt
  ·have:=(T.own hj).1;omega
  ·exact h.mb j hj))
theorem Ed.up {lo t t2:Nat} {w:World} {p:Tp} {W0:World} {f:Nat} {S:Nat→Prop} {P:Nat→List Fp} {rb:Nat} {rG:Int} {rv:Value} {L:List Gp.Gr} {live:List Bool} {MB:Nat→Prop} (h:Ed lo t w p W0 f S P rb rG rv L live MB) (ht:lo≤t2):Ed lo t2 w p W0 f S P rb rG rv L live MB:=⟨h.pf,h.fs,h.fb,h.fr,h.gd,ht,h.mb⟩
structure Ml (lo t:Nat) (p:Tp) (W0:World) (f:Nat) (S:Nat→Prop) (P:Nat→List Fp) (rb:Nat) (rG:Int) (rv:Value) (L:List Gp.Gr) (live:List Bool) (MB:Nat→Prop) (w0:World) (bp bx:Nat) (a:Option Addr) (set:List A) (w:World) (v:Value) (σ:St) (Q:Mq) (s:Mt.Sn):Prop where
 tr:Tr w t p v σ.1 σ.2
 ed:Ed lo t w p W0 f S P rb rG rv L live MB
 mo:Mo MB lo bp w p Q
 sb:Sb w bx s
 pb:w.rangeAt bp 0 (ptC p).toList
 ts:Ts w a set
 a1:∀ b,InT a set b→t<b∧v.ownBlock≠some b
 ef:Efm t MB (.slice none 0 0) w0 v w
 b1:bp<bx∧bx<t∧lo≤bp
section
variable {lo t:Nat} {p:Tp} {W0:World} {f:Nat} {S:Nat→Prop} {P:Nat→List Fp} {rb:Nat} {rG:Int} {rv:Value} {L:List Gp.Gr} {live:List Bool} {MB:Nat→Prop} {w0:World} {bp bx:Nat} {a:Option Addr} {set:List A} {w:World} {v:Value} {σ:St} {Q:Mq} {s:Mt.Sn}
theorem Ml.step (h:Ml lo t p W0 f S P rb rG rv L live MB w0 bp bx a set w v σ Q s) {w':World} {v':Value} {σ':St} {Q':Mq} (k:Efm t MB v w v' w') (T:Tr w' t p v' σ'.1 σ'.2) (M:Mo MB lo bp w' p Q'):Ml lo t p W0 f S P rb rG rv L live MB w0 bp bx a set w' v' σ' Q' s:=by
 have hb1:=h.b1;have hm:∀ b,bp≤b→¬ MB b:=fun b hb e=>by have:=(h.mo.bd b e).2;omega
 have hv:∀ b,b≤t→v.ownBlock≠some b:=fun b hb e=>by have:=(h.tr.own e).1;omega
 have htl:=h.tr.lt;have kb:∀ b,b<w.heap.size→b≠t→bp≤b→v.ownBlock≠some b→w'.heap[b]? = w.heap[b]?:=fun b hb ht hp hv=>k.block hb ht hv (hm b hp);exact⟨T,h.ed.keep k h.tr,M,h.sb.block (kb bx (by omega) (by omega) (by omega) (hv bx (by omega))),range_block h.pb (kb bp (by omega) (by omega) (Nat.le_refl _) (hv bp (by omega))),h.ts.stay k.size (fun b hb hl=>kb b hl (by have:=(h.a1 b hb).1;omega) (by have:=(h.a1 b hb).1;omega) (h.a1 b hb).2),fun b hb=>⟨(h.a1 b hb).1,k.apart (h.ts.lt hb) (h.a1 b hb).2⟩,h.ef.trans k,h.b1⟩
theorem Ml.below (h:Ml lo t p W0 f S P rb rG rv L live MB w0 bp bx a set w v σ Q s) {w':World} (g:Below w.heap.size w w'):Ml lo t p W0 f S P rb rG rv L live MB w0 bp bx a set w' v σ Q s :=
 h.step (Efm.of_below g) (h.tr.below g) (h.mo.low (g.mono (by have:=h.b1;have:=h.tr.lt;omega)))
theorem Ml.store (h:Ml lo t p W0 f S P rb rG rv L live MB w0 bp bx a set w v σ Q s) {w':World} {s':Mt.Sn} (o:Only bx w w') (hs:Sb w' bx s') (hw:w0.heap.size≤bx):Ml lo t p W0 f S P rb rG rv L live MB w0 bp bx a set w' v σ Q s':=by
 have hb1:=h.b1;have htl:=h.tr.lt;have hz:w'.heap.size=w.heap.size:=o.size;have g:Below bx w w':=⟨o.os,o.tape,o.output,by omega,fun k hk=>o.block k (by omega)⟩
 exact⟨h.tr.only o (by omega) (fun e=>by have:=(h.tr.own e).1;omega),h.ed.low (g.mono (by omega)),h.mo.low (g.mono (by omega)),hs,range_block h.pb (o.block bp (by omega)),h.ts.stay (by omega) (fun b hb _=>o.block b (by have:=(h.a1 b hb).1;omega)),h.a1,h.ef.only o hw,h.b1⟩
end
theorem efm_low {lo t:Nat} {MB:Nat→Prop} {p:Tp} {v v':Value} {O:List Ot} {nb:Nat} {w w':World} (k:Efm t MB v w v' w') (T:Tr w t p v O nb) (hl:lo≤t) (hm:∀ b,MB b→lo≤b):Below lo w w' :=
 k.kpt.below (Nat.le_of_lt (Nat.lt_of_le_of_lt hl T.lt)) (fun j hj=>by
  rcases hj with rfl|hj|hj
  ·exact hl
  ·have:=(T.own hj).1;omega
  ·exact hm j hj)
structure Ey (lo t:Nat) (v:Value) (c:Nat) (y:Fe) (w:World):Prop where
 be:Be w c 0 y
 c1:t<c∧c<w.heap.size∧v.ownBlock≠some c
 fw:FW w y
 yl:∀ b,InF y b→b<lo
theorem Ey.step {lo t:Nat} {MB:Nat→Prop} {p:Tp} {v v':Value} {O:List Ot} {nb c:Nat} {y:Fe} {w w':World} (h:Ey lo t v c y w) (k:Efm t MB v w v' w') (T:Tr w t p v O nb) (hl:lo≤t) (hm:∀ b,MB b→lo≤b∧b<t):Ey lo t v' c y w':=by
 have g:=efm_low k T hl (fun b hb=>(hm b hb).1);have hc:=h.c1;exact⟨h.be.block (k.block hc.2.1 (by omega) hc.2.2 (fun e=>by have:=(hm c e).2;omega)),⟨hc.1,by have:=k.size;omega,k.apart hc.2.1 hc.2.2⟩,h.fw.stay k.size (fun b hb _=>g.block b (h.yl b hb)),h.yl⟩
theorem Ey.only {lo t bx:Nat} {v:Value} {c:Nat} {y:Fe} {w w':World} (h:Ey lo t v c y w) (o:Only bx w w') (hb:lo≤bx) (hc:bx≠c):Ey lo t v c y w' :=
 ⟨h.be.block (o.block c (fun e=>hc e.symm)),⟨h.c1.1,by rw[o.size];exact h.c1.2.1,h.c1.2.2⟩,h.fw.stay (by rw[o.size];exact Nat.le_refl _) (fun b hb' _=>o.block b (by have:=h.yl b hb';omega)),h.yl⟩
theorem Tr.kptD {MB:Nat→Prop} {w w':World} {t:Nat} {p:Tp} {v:Value} {O:List Ot} {nb:Nat} (h:Tr w t p v O nb) (k:Kpt MB w w') (hm:∀ b,MB b→b<t):Tr w' t p v O nb :=
 h.stay k.size (k.block t h.lt (fun e=>by have:=hm _ e;omega)) (fun b hb=>k.block b (h.own hb).2 (fun e=>by have:=hm _ e;have:=(h.own hb).1;omega))
theorem Sw.dacts {live:List Bool} {thr:Mt.Sn→Int→St→St}:∀ (l:List A) (s:Mt.Sn) (σ:St),Sw s→AWs l→Sw (dactsV live thr l s σ).1
 | [],_,_,h,_=>h
 | a::l,s,σ,h,hl=>by
   have hr:AWs l:=fun x hx=>hl x (List.mem_cons_of_mem _ hx);unfold dactsV;split
   ·exact Sw.dacts l s _ h hr
   ·split
    ·exact Sw.dacts l s _ h hr
    ·exact Sw.dacts l _ σ (h.change (hl a (List.mem_cons_self ..))) hr
theorem run_any (lo hi:Nat) (p:Tp) (W0:World) (f:Nat) (S:Nat→Prop) (P:Nat→List Fp) (rb:Nat) (rG:Int) (rv:Value) (L:List Gp.Gr) (live:List Bool) (MB:Nat→Prop) (s:Mt.Sn) (Q:Mq) (w:World)
 (E:Ed lo lo w p W0 f S P rb rG rv L live MB) (M:Mo MB lo hi w p Q) (hl:lo≤w.heap.size) (hh:hi≤w.heap.size) (hs:Sw s) (hG:∀ g∈L.map Gp.Gr.p,Gp.rightE g=0) (hP:∀ u,∀ x∈P u,wrongE x=0) :
 Calls prog 15 #[ptV p,Mt.snV s,.int .i64 p.pick] w fun e w'=>∃ v' Q',e=.returned v'∧OwnR w.heap.size w' v' (runV P (L.map Gp.Gr.p) live p.pick s Q.ms).1∧(runV P (L.map Gp.Gr.p) live p.pick s Q.ms).1.length≤64∧Mq.ms Q'=(runV P (L.map Gp.Gr.p) live p.pick s Q.ms).2∧Mo MB lo w.heap.size w' p Q'∧Kpt MB w w':=by
 obtain⟨W3,hW3⟩:∃ W3,((w.alloc (.cells (ptC p) 42)).alloc (.cells (Mt.snC { s with mt:=0 }) 56)).alloc (.cells (trC p) 108)=W3:=⟨_,rfl⟩
 have g3:Below w.heap.size w W3:=by rw[← hW3];go_grown
 have T3:Tr W3 (w.heap.size+1+1) p (.slice none 0 0) [] 0:=by
  have:=Tr.new ((w.alloc (.cells (ptC p) 42)).alloc (.cells (Mt.snC { s with mt:=0 }) 56)) p;rw[hW3]at this;simpa using this
 have z3:W3.heap.size=w.heap.size+3:=by rw[← hW3];simp
 have S3:Sb W3 (w.heap.size+1) { s with mt:=0 }:=by
  have h:=Sb.newr (w.alloc (.cells (ptC p) 42)) { s with mt:=0 };have e:(w.alloc (.cells (ptC p) 42)).heap.size=w.heap.size+1:=by simp
  rw[e]at h;rw[← hW3];exact h.block (heap_alloc_old _ _ (by simp))
 have P3:W3.rangeAt w.heap.size 0 (ptC p).toList:=by
  rw[← hW3];exact range_block (range_block (range_new w (ptC p) _) (heap_alloc_old _ _ (by simp))) (heap_alloc_old _ _ (by simp;omega))
 obtain⟨R,hR⟩:∃ R,R=dtabV P (L.map Gp.Gr.p) live p.pick 8 0 { s with mt:=0 } [] ([],0) Q.ms:=⟨_,rfl⟩
 have HRu:Hid (runV P (L.map Gp.Gr.p) live p.pick s Q.ms=(R.1.1,R.2)):=(show _=_ by rw[hR];exact(run_d hG hP s Q.ms).symm)
 rw[HRu.out]
 have HM0:Hid (Ml lo (w.heap.size+1+1) p W0 f S P rb rG rv L live MB w w.heap.size (w.heap.size+1) none [] W3 (.slice none 0 0) ([],0) Q { s with mt:=0 }):=(show Ml _ _ _ _ _ _ _ _ _ _ _ _ _ _ _ _ _ _ _ _ _ _ _ from
  ⟨T3,(E.low (g3.mono hl)).up (by omega),(M.low (g3.mono hh)).up hh,S3,P3,.inl rfl,fun b hb=>absurd rfl hb.1,Efm.of_below g3,⟨by omega,by omega,hl⟩⟩)
 have HSw0:Hid (Sw { s with mt:=0 }):=hs.mt 0 (by omega) (by omega);have HR0:Hid (R=dtabV P (L.map Gp.Gr.p) live p.pick 8 0 { s with mt:=0 } [] ([],0) Q.ms):=hR;have Hg3:Hid (Below w.heap.size w W3):=g3;have HW3:Hid (((w.alloc (.cells (ptC p) 42)).alloc (.cells (Mt.snC { s with mt:=0 }) 56)).alloc (.cells (trC p) 108)=W3):=hW3;have HFr:Hid (∀ u,u<8→∀ x∈P u,wrongE x=0):=E.fr;have Hend:Hid (∀ (w':World) (v:Value) (σ:St) (Q':Mq) a set s',Ml lo (w.heap.size+1+1) p W0 f S P rb rG rv L live MB w w.heap.size (w.heap.size+1) a set w' v σ Q' s'→R=(σ,Q'.ms)→∃ v' Q'',Ending.returned v=.returned v'∧OwnR w.heap.size w' v' R.1.1∧R.1.1.length≤64∧Mq.ms Q''=R.2∧Mo MB lo w.heap.size w' p Q''∧Kpt MB w w'):=(show ∀ (w':World) (v:Value) (σ:St) (Q':Mq) a set s',_ from fun w' v σ Q' a set s' h e=>by
  refine⟨v,Q',rfl,?_,?_,?_,h.mo,kpt_trip h.ef (Below.refl _ _) (by omega)⟩
  ·rw[e];exact own_baseR h.tr.row (by omega)
  ·rw[e];exact h.tr.no
  ·rw[e])
 clear E M hs T3 g3 hR hW3 S3 P3 hG hP HRu;go_enter func15,ntmps15;go_wp2_with fail;rw[HW3.out];go_loopw [8,9] (fun v8 v9 wr=>∃ (k:Nat) (fr:Int) (s':Mt.Sn) (a:Option Addr) (set:List A) (cap:Nat) (v:Value) (σ:St) (Q':Mq),v8=.slice a set.length cap∧v9=.int .i64 fr∧Hid (R=dtabV P (L.map Gp.Gr.p) live p.pick k fr s' set σ Q'.ms)∧Hid (Ml lo (w.heap.size+1+1) p W0 f S P rb rG rv L live MB w w.heap.size (w.heap.size+1) a set wr v σ Q' s')∧Hid (Sw s'∧AWs set∧set.length+32*k≤288∧0≤fr∧8≤fr+k)) (fun _ v9 _=>(8-intOf v9).toNat);case atStart=>exact⟨8,0,_,none,[],0,_,([],0),Q,rfl,rfl,HR0,HM0,(show _∧_ from⟨HSw0.out,(fun _ h=>by cases h),by simp,by omega,by omega⟩)⟩
 case round =>
  clear HR0 HM0 HSw0;obtain⟨k,fr,s',a,set,cap,v,σ,Q',rfl,rfl,HR,HM,HP⟩:=hrel;obtain⟨o,ho⟩:∃ o,o=lookP (tabOf P fr) s':=⟨_,rfl⟩
  obtain⟨B,hB⟩:∃ B,B=o.isSome:=⟨_,rfl⟩
  obtain⟨q,hq⟩:∃ q,q=o.getD fp0:=⟨_,rfl⟩
  have HLk:Hid (Calls prog 36 #[.pointer (some ⟨f,0,none⟩),.int .i64 fr,Mt.snV s'] wr fun e w'=>∃ y:Fe,e=.returned (.tuple #[feV y,.bool B])∧Hid (y.p=q∧FW w' y∧(∀ b,InF y b→b<W0.heap.size)∧Below wr.heap.size wr w')):=(show Calls _ _ _ _ _ from by
   obtain⟨LF,hF,hJ,hn⟩:=HM.out.ed.fs;have h:=rlook_any W0.heap.size f S 256 LF fr s' HP.out.1.wf wr hF (by omega);rw[← hJ.tab fr,← ho,← hB,← hq]at h;exact h.mono fun e w' ⟨y,h1,h2,h3,h4,h5⟩=>⟨y,h1,(show _∧_ from⟨h2,h3,h4,h5⟩)⟩)
  have HO:Hid (o=lookP (tabOf P fr) s'∧B=o.isSome∧q=o.getD fp0):=(show _∧_ from⟨ho,hB,hq⟩)
  have q0:wr.cell? ⟨w.heap.size,0,none⟩=some (.pointer (some ⟨f,0,none⟩)):=by rw[← HM.out.ed.pf];have:=HM.out.pb 0 _ rfl;rwa [Nat.zero_add]at this
  have htl:=HM.out.tr.lt;obtain⟨n,hn⟩:∃ n,n=set.length:=⟨_,rfl⟩
  rw[← hn];have Hn:Hid (n=set.length):=hn;clear ho hB hq hn;go_wp2_with (refine load_Rb rfl (.tmp 4) rfl (w.heap.size+1) s' rfl HM.out.sb ?_);refine Calls.mono HLk.out ?_;rintro e w1 ⟨y,rfl,HY⟩;clear q0 HLk;have HM1:Hid (Ml lo (w.heap.size+1+1) p W0 f S P rb rG rv L live MB w w.heap.size (w.heap.size+1) a set w1 v σ Q' s'):=HM.out.below HY.out.2.2.2;have zw1:wr.heap.size≤w1.heap.size:=HY.out.2.2.2.size;have Hvw:Hid (v.ownBlock≠some w1.heap.size):=(show _≠_ from fun e=>by have:=(HM.out.tr.own e).2;omega)
  clear HM;have hl3:=HM1.out.ed.gd.l3;have HMl:Hid (∀ b,MB b→lo≤b∧b<w.heap.size+1+1):=(show ∀ b,_ from fun b hb=>by have:=HM1.out.mo.bd b hb;omega)
  have HXf:Hid (∀ X,Be X w1.heap.size 0 y→Only w1.heap.size (w1.alloc (.cells zeroE 76)) X→Ml lo (w.heap.size+1+1) p W0 f S P rb rG rv L live MB w w.heap.size (w.heap.size+1) a set X v σ Q' s'∧Ey lo (w.heap.size+1+1) v w1.heap.size y X∧X.heap.size=w1.heap.size+1):=(show ∀ X,_ from fun X bX oX=>by
   have hgX:Below w1.heap.size w1 X:=oX.below (Nat.le_refl _) (by go_grown);have zX:X.heap.size=w1.heap.size+1:=by rw[oX.size];simp
   exact⟨HM1.out.below hgX,⟨bX,⟨by omega,by omega,Hvw.out⟩,HY.out.2.1.below hgX,fun b hb=>Nat.lt_of_lt_of_le (HY.out.2.2.1 b hb) hl3⟩,zX⟩)
  have Hyp:Hid (y.p=q):=HY.out.1;clear HM1 HY hl3;cases o with
  | none =>
    have hB:B=false:=HO.out.2.1;have HR2:Hid (R=(σ,Q'.ms)):=(show _=_ by
     rw[HR.out];cases k with
     | zero=>rfl
     | succ k=>unfold dtabV;rw[← HO.out.1])
    subst hB;clear HR;go_wp2_with (refine store_E rfl (.tmp 10) (.tmp 23) rfl w1.heap.size 0 y rfl rfl (there_new w1 zeroE 76) ?_;intro X hX bX tX oX;have HX:=HXf.out X bX oX;clear hX tX bX oX;have HMX:Hid (Ml lo (w.heap.size+1+1) p W0 f S P rb rG rv L live MB w w.heap.size (w.heap.size+1) a set X v σ Q' s'):=HX.1;have c5:=HMX.out.tr.c5;have htX:=HMX.out.tr.lt;clear HX);go_ret;exact Hend.out _ _ _ _ _ _ _ HMX.out HR2.out
  | some x =>
    have hB:B=true:=HO.out.2.1;have hq:q=x:=HO.out.2.2;subst hB;subst hq;have hlk:lookP (tabOf P fr) s'=some q:=HO.out.1.symm;have hmem:q∈tabOf P fr:=List.mem_of_find?_eq_some hlk;have hfr:=HP.out.2.2.2.1;have hk8:=HP.out.2.2.2.2;have hfr8:fr<8:=by
     by_cases h:0≤fr∧fr<8
     ·exact h.2
     ·unfold tabOf at hmem;rw[if_neg h]at hmem;cases hmem
    have hwr:wrongE q=0:=HFr.out fr.toNat (by omega) q (by unfold tabOf at hmem;rwa [if_pos ⟨hfr,hfr8⟩]at hmem);obtain⟨j,rfl⟩:∃ j,k=j+1:=⟨k-1,by omega⟩
    obtain⟨hw1,hw2⟩:=wrong_acts hwr;obtain⟨hw3,hw4,hw5⟩:=wrong_len hwr
    have HR2:Hid (R=if (passV Q'.ms q.met s'.pk).1=false then (σ,(passV Q'.ms q.met s'.pk).2) else
     if fr<q.go then dtabV P (L.map Gp.Gr.p) live p.pick j q.go { (dactsV live (dthrV (L.map Gp.Gr.p) live p.pick 8) q.la s' σ).1 with mt:=metaV (dactsV live (dthrV (L.map Gp.Gr.p) live p.pick 8) q.la s' σ).1.mt q.mm q.mt } (Sr.mergeV ((if q.clr=true then [] else set)++q.lw)) (dactsV live (dthrV (L.map Gp.Gr.p) live p.pick 8) q.la s' σ).2 (passV Q'.ms q.met s'.pk).2
     else (dsetV live (dthrV (L.map Gp.Gr.p) live p.pick 8) (Sr.mergeV ((if q.clr=true then [] else set)++q.lw)) { (dactsV live (dthrV (L.map Gp.Gr.p) live p.pick 8) q.la s' σ).1 with mt:=metaV (dactsV live (dthrV (L.map Gp.Gr.p) live p.pick 8) q.la s' σ).1.mt q.mm q.mt } (dactsV live (dthrV (L.map Gp.Gr.p) live p.pick 8) q.la s' σ).2,(passV Q'.ms q.met s'.pk).2)):=(show _=_ by
     rw[HR.out];show(match lookP (tabOf P fr) s' with|none=>_|some x=>_)=_;rw[hlk])
    have hyp:=Hyp.out;obtain⟨y0,ta,tc,aa,ca,aw,cw⟩:=y;simp only at hyp;subst hyp;obtain⟨xtab,xpri,xlt,xla,xlw,xclr,xmt,xmm,xmet,xgo⟩:=y0;simp only at hw1 hw2 hw3 hw4 hw5 HR2;obtain⟨pv,hpv⟩:∃ pv,pv=passV Q'.ms xmet s'.pk:=⟨_,rfl⟩
    rw[← hpv]at HR2;have HTk:Hid (∀ X,Mo MB lo w.heap.size X p Q'→w.heap.size≤X.heap.size→Calls prog 37 #[ptV p,.int .i64 xmet,Mt.snV s'] X fun e w'=>e=.returned (.bool pv.1)∧∃ Q2:Mq,Q2.ms=pv.2∧Mo MB lo w.heap.size w' p Q2∧Kpt MB X w'):=(show ∀ X,_ from fun X m z=>by
     rw[hpv];exact takes_any p MB lo w.heap.size Q' xmet s' X m z HP.out.1.fw HP.out.1.sz)
    clear hpv hlk hmem hwr Hyp HO HR
    go_wp2_with (first
     | (refine store_E rfl (.tmp 10) (.tmp 23) rfl w1.heap.size 0 (Fe.mk (Fp.mk xtab xpri xlt xla xlw xclr xmt xmm xmet xgo) ta tc aa ca aw cw) rfl rfl (there_new w1 zeroE 76) ?_;intro X hX bX tX oX;have HX:=HXf.out X bX oX;clear hX tX bX oX;have HMX:Hid (Ml lo (w.heap.size+1+1) p W0 f S P rb rG rv L live MB w w.heap.size (w.heap.size+1) a set X v σ Q' s'):=HX.1;have HE:Hid (Ey lo (w.heap.size+1+1) v w1.heap.size _ X):=HX.2.1;have zX:=HX.2.2;have p0:X.cell? ⟨w.heap.size,0,none⟩=some (.pointer p.f):=(by have:=HMX.out.pb 0 _ rfl;rwa [Nat.zero_add]at this);have p1:X.cell? ⟨w.heap.size,1,none⟩=some (.pointer p.g):=(by have:=HMX.out.pb 1 _ rfl;rwa [Nat.zero_add]at this);have p2:X.cell? ⟨w.heap.size,2,none⟩=some (.slice p.ma p.mn p.mc):=(by have:=HMX.out.pb 2 _ rfl;rwa [Nat.zero_add]at this);have p3:X.cell? ⟨w.heap.size,3,none⟩=some (.slice p.la p.ln p.lc):=(by have:=HMX.out.pb 3 _ rfl;rwa [Nat.zero_add]at this);have e8:X.cell? ⟨w1.heap.size,8,none⟩=some (.int .i64 xmet):=HE.out.be.cs.2.2.2.2.2.2.2.2.1;clear HX)
     | (refine load_Rb rfl (.tmp 4) rfl (w.heap.size+1) s' rfl HMX.out.sb ?_))
    refine Calls.mono (HTk.out X HMX.out.mo (by omega)) ?_;rintro e w2 ⟨rfl,Q2,hQ2,M2,K2⟩;have HM2:Hid (Ml lo (w.heap.size+1+1) p W0 f S P rb rG rv L live MB w w.heap.size (w.heap.size+1) a set w2 v σ Q2 s'):=HMX.out.step (Efm.of_kpt K2) (HMX.out.tr.kptD K2 (fun b hb=>(HMl.out b hb).2)) M2;have HE2:Hid (Ey lo (w.heap.size+1+1) v w1.heap.size _ w2):=HE.out.step (Efm.of_kpt K2) HMX.out.tr HMX.out.ed.lt HMl.out;have HQ2:Hid (Q2.ms=pv.2):=hQ2;clear p0 p1 p2 p3 e8 HMX HE M2 K2 hQ2 HTk;obtain⟨pb,pm⟩:=pv;cases pb
    ·have HR3:Hid (R=(σ,Q2.ms)):=(show _=_ by rw[HR2.out,HQ2.out];rfl)
     have c5:=HM2.out.tr.c5;clear HR2;go_wp2_with fail;go_ret;exact Hend.out _ _ _ _ _ _ _ HM2.out HR3.out
    ·obtain⟨av,hav⟩:∃ av,av=dactsV live (dthrV (L.map Gp.Gr.p) live p.pick 8) xla s' σ:=⟨_,rfl⟩
     have hsw1:Sw av.1:=by rw[hav];exact Sw.dacts _ _ _ HP.out.1 hw1
     have hlt:lo≤w.heap.size+1+1:=HM2.out.ed.lt;have HAp:Hid (Calls prog 38 #[.pointer (some ⟨w.heap.size+1+1,0,none⟩),Mt.snV s',.slice aa xla.length ca] w2 fun e w'=>e=.returned (Mt.snV av.1)∧∃ v',Tr w' (w.heap.size+1+1) p v' av.2.1 av.2.2∧Eff (w.heap.size+1+1) v w2 v' w'):=(show Calls _ _ _ _ _ by
      rw[hav];exact acts_any (w.heap.size+1+1) p W0 rb rG rv L live _ (thr_top (w.heap.size+1+1) p W0 rb rG rv L live) aa xla ca s' v σ w2 HM2.out.tr (HM2.out.ed.gd.up hlt) HE2.out.fw.a (fun b hb=>⟨by have:=HE2.out.yl b (.inr (.inl hb));omega,fun e=>by have:=(HM2.out.tr.own e).1;have:=HE2.out.yl b (.inr (.inl hb));omega⟩) hw1 (by omega))
     rw[← hav]at HR2
     have HR3:Hid (R=if fr<xgo then dtabV P (L.map Gp.Gr.p) live p.pick j xgo { av.1 with mt:=metaV av.1.mt xmm xmt } (Sr.mergeV ((if xclr=true then [] else set)++xlw)) av.2 pm
      else (dsetV live (dthrV (L.map Gp.Gr.p) live p.pick 8) (Sr.mergeV ((if xclr=true then [] else set)++xlw)) { av.1 with mt:=metaV av.1.mt xmm xmt } av.2,pm)):=(show _=_ by rw[HR2.out];rfl)
     clear HR2 hav;obtain⟨s1,σ1⟩:=av;simp only at hsw1 HAp HR3;have e3:w2.cell? ⟨w1.heap.size,3,none⟩=some (.slice aa xla.length ca):=HE2.out.be.cs.2.2.2.1;have zw2:w1.heap.size<w2.heap.size:=HE2.out.c1.2.1;go_wp2_with (refine load_Rb rfl (.tmp 4) rfl (w.heap.size+1) s' rfl HM2.out.sb ?_);refine Calls.mono HAp.out ?_;rintro e w3 ⟨rfl,v3,T3',E3⟩;have HM3:Hid (Ml lo (w.heap.size+1+1) p W0 f S P rb rG rv L live MB w w.heap.size (w.heap.size+1) a set w3 v3 σ1 Q2 s'):=HM2.out.step (Efm.of_eff E3) T3' (HM2.out.mo.low ((eff_below E3 HM2.out.tr).mono (by omega)));have HE3:Hid (Ey lo (w.heap.size+1+1) v3 w1.heap.size _ w3):=HE2.out.step (Efm.of_eff (MB:=MB) E3) HM2.out.tr hlt HMl.out;clear e3 T3' E3 HAp HM2 HE2;obtain⟨M,hM⟩:∃ M,M=Sr.mergeV ((if xclr=true then [] else set)++xlw):=⟨_,rfl⟩
     rw[← hM]at HR3;have hMaw:AWs M:=by
      rw[hM];refine Sr.merge_aws (fun z hz => ?_);rcases List.mem_append.1 hz with hz|hz
      ·split at hz
       ·cases hz
       ·exact HP.out.2.1 z hz
      ·exact hw2 z hz
     have hMlen:M.length≤set.length+32:=by
      rw[hM];refine Nat.le_trans (merge_len _) ?_;rw[List.length_append];split
      ·simp;omega
      ·omega
     have hset:=HP.out.2.2.1;have HMg:Hid (∀ W,Ml lo (w.heap.size+1+1) p W0 f S P rb rG rv L live MB w w.heap.size (w.heap.size+1) a set W v3 σ1 Q2 s1→Ey lo (w.heap.size+1+1) v3 w1.heap.size ⟨⟨xtab,xpri,xlt,xla,xlw,xclr,xmt,xmm,xmet,xgo⟩,ta,tc,aa,ca,aw,cw⟩ W→Calls prog 39 #[if xclr=true then .slice none 0 0 else .slice a n cap,.slice aw xlw.length cw] W fun e w'=>∃ a' c',e=.returned (.slice a' M.length c')∧Hid (Ts w' a' M∧(∀ b,InT a' M b→W.heap.size≤b)∧Below W.heap.size W w')):=(show ∀ W,_ from fun W hMd hEy=>by
      rw[hM];cases xclr
      ·simp only[Bool.false_eq_true,if_false];rw[Hn.out];exact(Sr.rmerge_loc a aw set xlw cap cw W hMd.ts hEy.fw.w HP.out.2.1 hw2 (by omega)).mono fun e w' ⟨a',c',h1,h2,h3,h4⟩=>⟨a',c',h1,(show _∧_ from⟨h2,h3,h4⟩)⟩
      ·simp only[if_true];exact(Sr.rmerge_loc none aw [] xlw 0 cw W (.inl rfl) hEy.fw.w (fun _ h=>by cases h) hw2 (by simp;omega)).mono fun e w' ⟨a',c',h1,h2,h3,h4⟩=>⟨a',c',h1,(show _∧_ from⟨h2,h3,h4⟩)⟩)
     have HMl2:Hid (AWs M∧M.length≤set.length+32):=(show _∧_ from⟨hMaw,hMlen⟩)
     clear hMaw hMlen hw1 hw2 hw3 hw4 hw5 hM hset;have hbit:=and_xor s1.mt xmm;cases xclr
     all_goals
      simp only[Bool.false_eq_true,if_false,if_true]at HMg;go_wp2_with (refine store_Rb rfl (.tmp 4) (.tmp 43) rfl (w.heap.size+1) s1 rfl rfl HM3.out.sb.t ?_;intro X3 hX3 oX3;have HM4:Hid (Ml lo (w.heap.size+1+1) p W0 f S P rb rG rv L live MB w w.heap.size (w.heap.size+1) a set X3 v3 σ1 Q2 s1):=HM3.out.store oX3 hX3 (by omega);have HE4:Hid (Ey lo (w.heap.size+1+1) v3 w1.heap.size _ X3):=HE3.out.only oX3 (by have:=HM3.out.b1;omega) (by have:=HE3.out.c1;omega);have e5:X3.cell? ⟨w1.heap.size,5,none⟩=_:=HE4.out.be.cs.2.2.2.2.2.1;have e4:X3.cell? ⟨w1.heap.size,4,none⟩=_:=HE4.out.be.cs.2.2.2.2.1;simp only at e4 e5;clear hX3 oX3);refine Calls.mono (HMg.out X3 HM4.out HE4.out) ?_;rintro e w5 ⟨a5,c5,rfl,HYm⟩;have HM5:Hid (Ml lo (w.heap.size+1+1) p W0 f S P rb rG rv L live MB w w.heap.size (w.heap.size+1) a set w5 v3 σ1 Q2 s1):=HM4.out.below HYm.out.2.2;have HE5:Hid (Ey lo (w.heap.size+1+1) v3 w1.heap.size _ w5):=HE4.out.step (Efm.of_below (MB:=MB) HYm.out.2.2) HM4.out.tr hlt HMl.out;have e6:w5.cell? ⟨w1.heap.size,6,none⟩=_:=HE5.out.be.cs.2.2.2.2.2.2.1;have e7:w5.cell? ⟨w1.heap.size,7,none⟩=_:=HE5.out.be.cs.2.2.2.2.2.2.2.1;have e9:w5.cell? ⟨w1.heap.size,9,none⟩=_:=HE5.out.be.cs.2.2.2.2.2.2.2.2.2;have f1:w5.cell? ⟨w.heap.size+1,1,none⟩=some (.int .u64 s1.mt):=HM5.out.sb.at 1 _ rfl;have f1z:w5.frozen? ⟨w.heap.size+1,1,none⟩=false:=HM5.out.sb.fz 1 (by decide);have hne:w.heap.size+1≠w1.heap.size:=by have:=HE5.out.c1;omega
      simp only at e6 e7 e9;clear e4 e5;obtain⟨X6,hX6⟩:∃ X6,w5.setCell ⟨w.heap.size+1,1,none⟩ (.int .u64 (bits .or .u64 (bits .andNot .u64 s1.mt xmm) (bits .and .u64 xmt xmm)))=X6:=⟨_,rfl⟩
      have oX6:Only (w.heap.size+1) w5 X6:=by rw[← hX6];exact(Only.refl _ w5).setCell 1 _
      have hM6:Ml lo (w.heap.size+1+1) p W0 f S P rb rG rv L live MB w w.heap.size (w.heap.size+1) a set X6 v3 σ1 Q2 { s1 with mt:=metaV s1.mt xmm xmt }:=HM5.out.store oX6 (by rw[← hX6];exact HM5.out.sb.set1 _) (by omega);have HE6:Hid (Ey lo (w.heap.size+1+1) v3 w1.heap.size _ X6):=HE5.out.only oX6 (by have:=HM5.out.b1;omega) hne;have e96:X6.cell? ⟨w1.heap.size,9,none⟩=some (.int .i64 xgo):=HE6.out.be.cs.2.2.2.2.2.2.2.2.2;have hsw6:Sw { s1 with mt:=metaV s1.mt xmm xmt }:=hsw1.mt _ (meta_lt _ _ _).1 (meta_lt _ _ _).2;have HT6:Hid (Ts X6 a5 M∧∀ b,InT a5 M b→w.heap.size+1+1<b∧v3.ownBlock≠some b):=(show _∧_ from⟨HYm.out.1.stay (by rw[oX6.size];exact Nat.le_refl _) (fun b hb _=>oX6.block b (by have:=HYm.out.2.1 b hb;have:=HM4.out.tr.lt;omega)),fun b hb=>⟨by have:=HYm.out.2.1 b hb;have:=HM4.out.tr.lt;omega,fun e=>by have:=(HM4.out.tr.own e).2;have:=HYm.out.2.1 b hb;omega⟩⟩)
      obtain⟨s2,hs2⟩:∃ s2,s2={ s1 with mt:=metaV s1.mt xmm xmt }:=⟨_,rfl⟩
      rw[← hs2]at hM6 hsw6 HR3;have HM6:Hid (Ml lo (w.heap.size+1+1) p W0 f S P rb rG rv L live MB w w.heap.size (w.heap.size+1) a set X6 v3 σ1 Q2 s2):=hM6;have HS6:Hid (Sw s2):=hsw6;clear hs2 hM6 hsw6 oX6 HM3 HE3 HM4 HE4 HM5 HE5 HYm HMg;by_cases hgo:fr<xgo
      ·have hgo' : ¬ xgo≤fr:=by omega
       have HR4:Hid (R=dtabV P (L.map Gp.Gr.p) live p.pick j xgo s2 M σ1 Q2.ms):=(show _=_ by rw[HR3.out,if_pos hgo,HQ2.out])
       have HMn:Hid (Ml lo (w.heap.size+1+1) p W0 f S P rb rG rv L live MB w w.heap.size (w.heap.size+1) a5 M X6 v3 σ1 Q2 s2):=(show Ml _ _ _ _ _ _ _ _ _ _ _ _ _ _ _ _ _ _ _ _ _ _ _ from⟨HM6.out.tr,HM6.out.ed,HM6.out.mo,HM6.out.sb,HM6.out.pb,HT6.out.1,HT6.out.2,HM6.out.ef,HM6.out.b1⟩)
       have HPn:Hid (Sw s2∧AWs M∧M.length+32*j≤288∧0≤xgo∧8≤xgo+j):=(show _∧_ from⟨HS6.out,HMl2.out.1,by have:=HMl2.out.2;have:=HP.out.2.2.1;omega,by omega,by omega⟩)
       clear HR3 HM6 HT6;go_wp2_with fail;go_roundw;case rel=>exact⟨j,xgo,s2,a5,M,c5,v3,σ1,Q2,rfl,rfl,HR4,HMn,HPn⟩
       case measure=>simp[intOf];omega
      ·have hgo':xgo≤fr:=by omega
       have HSt:Hid _:=set_any (w.heap.size+1+1) p W0 rb rG rv L live 0 _ (thr_top (w.heap.size+1+1) p W0 rb rG rv L live) a5 M c5 s2 v3 σ1 X6 HM6.out.tr (HM6.out.ed.gd.up hlt) HT6.out.1 HMl2.out.1 (by have:=HMl2.out.2;have:=HP.out.2.2.1;omega);have HR4:Hid (R=(dsetV live (dthrV (L.map Gp.Gr.p) live p.pick 8) M s2 σ1,Q2.ms)):=(show _=_ by rw[HR3.out,if_neg hgo,HQ2.out])
       clear HR3;generalize dsetV live (dthrV (L.map Gp.Gr.p) live p.pick 8) M s2 σ1=σ2 at *
       go_wp2_with (refine load_Rb rfl (.tmp 4) rfl (w.heap.size+1) s2 rfl HM6.out.sb ?_);refine Calls.mono HSt.out ?_;rintro e w7 ⟨rfl,v7,T7,E7⟩;have HM7:Hid (Ml lo (w.heap.size+1+1) p W0 f S P rb rG rv L live MB w w.heap.size (w.heap.size+1) a set w7 v7 σ2 Q2 s2):=HM6.out.step (Efm.of_eff E7) T7 (HM6.out.mo.low ((eff_below E7 HM6.out.tr).mono (by omega)));have c57:=HM7.out.tr.c5;have ht7:=HM7.out.tr.lt;clear T7 E7 HSt e96 e6 e7 e9 f1 f1z;go_wp2_with fail;go_ret;exact Hend.out _ _ _ _ _ _ _ HM7.out HR4.out
end Dc
end Go.Proofs.YtgnihbdcdefdgaaGreatDoor

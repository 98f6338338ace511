import Derived.Test.YtgnihbdcdefdgaaGreatDoorX26
import Derived.Deep.RegionHeld
set_option maxHeartbeats 16000000
set_option linter.unusedSimpArgs false
set_option linter.unusedVariables false
open Go.ChangeShapes Go.WideShapes Go.ChangeAt Go.RowKit
open Go.Proofs.Tryz
namespace Go.Proofs.YtgnihbdcdefdgaaGreatDoor
def addE (room:Int) (l:List Fp) (x:Fp) (chk:Bool):Int:=if (chk&&l.any (clashB x))=true then 28 else if l.any (twinB x)=true then 0 else if room≤l.length then 27 else 0
def insL (l:List Fp) (x:Fp):List Fp:=l.take (endV x.pri l)++x::l.drop (endV x.pri l)
def putL (l:List Fp) (x:Fp):List Fp:=match l.findIdx? (twinB x)with
 | some i=>l.set i x
 | none=>insL l x
def addL (room:Int) (l:List Fp) (x:Fp) (chk:Bool):List Fp:=if addE room l x chk=0 then putL l x else l
def addR (room:Int) (P:Nat→List Fp) (x:Fp) (chk:Bool):Int:=if wrongE x=0 then addE room (P x.tab.toNat) x chk else wrongE x
def addT (room:Int) (P:Nat→List Fp) (x:Fp) (chk:Bool):Nat→List Fp:=if wrongE x=0 then upd P x.tab.toNat (addL room (P x.tab.toNat) x chk) else P
theorem idxV_map (l:List Fe) (x:Fp):idxV l (fun y=>twinB x y.p)=idxV (l.map Fe.p) (twinB x):=by
 unfold idxV;rw[List.findIdx?_map];rfl
theorem putL_at {l:List Fp} {x:Fp} {i:Nat} (h:idxV l (twinB x)=i):putL l x=l.set i x∧i<l.length∧l.any (twinB x)=true:=by
 have hb:=idxV_lt l (twinB x);have ha:=idxV_any l (twinB x);rw[h]at ha hb;refine⟨?_,by omega,by rw[← ha];simp⟩;unfold idxV at h;unfold putL;cases hf:l.findIdx? (twinB x)with
 | none=>rw[hf]at h;simp only at h;omega
 | some j =>
   rw[hf]at h;simp only at h;have e:j=i:=by omega
   rw[e]
theorem putL_none {l:List Fp} {x:Fp} (h:idxV l (twinB x) = -1):putL l x=insL l x∧l.any (twinB x)=false:=by
 have ha:=idxV_any l (twinB x);rw[h]at ha;refine⟨?_,by rw[← ha];simp⟩;unfold idxV at h;unfold putL;cases hf:l.findIdx? (twinB x)with
 | none=>rfl
 | some j=>rw[hf]at h;simp only at h;omega
abbrev SX (b:Nat) (t:Int) (x:Fe) (w:World):Prop :=
 w.cell? ⟨b,0,none⟩=some (.int .i64 t)∧w.cell? ⟨b,1,none⟩=some (.int .i64 x.p.pri)∧w.cell? ⟨b,2,none⟩=some (.slice x.ta x.p.lt.length x.tc)∧w.cell? ⟨b,3,none⟩=some (.slice x.aa x.p.la.length x.ca)∧w.cell? ⟨b,4,none⟩=some (.slice x.aw x.p.lw.length x.cw)∧w.cell? ⟨b,5,none⟩=some (.bool x.p.clr)∧w.cell? ⟨b,6,none⟩=some (.int .u64 x.p.mt)∧w.cell? ⟨b,7,none⟩=some (.int .u64 x.p.mm)∧w.cell? ⟨b,8,none⟩=some (.int .i64 x.p.met)∧w.cell? ⟨b,9,none⟩=some (.int .i64 x.p.go)
theorem sx_of {b:Nat} {t:Int} {x:Fe} {W:World} (ht:x.p.tab=t) (h:Be W b 0 x):SX b t x W:=by
 subst ht;exact h.cs
theorem add_any (f:Nat) (S:Nat→Prop) (room:Int) (P:Nat→List Fp) (x:Fe) (chk:Bool) (w:World) (h:Fs w f S room P) (hxB:FB w x) (hd:Cd w) :
 Calls prog 25 #[.pointer (some ⟨f,0,none⟩),feV x,.bool chk] w fun e w'=>e=.returned (.int .i64 (addR room P x.p chk))∧∃ S',Fs w' f S' room (addT room P x.p chk)∧Kept S w w'∧∀ b,S' b→S b∨w.heap.size≤b:=by
 have HX:Hid (Be (fx w x) w.heap.size 0 x):=Be.new w x;have g0:Below w.heap.size w (fx w x):=by go_grown
 have HWr:Hid (Calls prog 49 #[.pointer (some ⟨f,0,none⟩),feV x] (fx w x) fun e w'=>e=.returned (.int .i64 (wrongE x.p))∧Below (fx w x).heap.size (fx w x) w'):=wrong_any f x _ (hxB.below g0) (hd.below g0);by_cases hw0:wrongE x.p=0
 ·have hx:=hxB.fw hw0;clear hxB;have hR:addR room P x.p chk=addE room (P x.p.tab.toNat) x.p chk:=by unfold addR;rw[if_pos hw0]
  have hP:addT room P x.p chk=upd P x.p.tab.toNat (addL room (P x.p.tab.toNat) x.p chk):=by unfold addT;rw[if_pos hw0]
  obtain⟨ht0,ht8⟩:=wrong_tab hw0;obtain⟨t,ht⟩:=Int.eq_ofNat_of_zero_le ht0;have htt:x.p.tab.toNat=t:=by omega
  have ht8':t<8:=by omega
  rw[htt]at hP hR;obtain⟨V,L,hF,hp⟩:=h;obtain⟨a,cap,hv,hform⟩:=OwnE.form2 (hF.row t ht8');have HF:Hid (Fl w f S room V L∧(∀ t,t<8→(L t).map Fe.p=P t)):=(show _∧_ from⟨hF,hp⟩)
  have HV:Hid (V t=.slice a (L t).length cap):=hv;have hln:(L t).length≤256:=by have:=hF.nm t ht8';have:=hF.r2;omega
  have hcv:w.cell? ⟨f,1+t,none⟩=some (.slice a (L t).length cap):=by rw[← hv];exact hF.cv t ht8'
  have hrm:w.cell? ⟨f,0,none⟩=some (.int .i64 room):=hF.rm;have hfz:w.frozen? ⟨f,1+t,none⟩=false:=hF.fz _;have hfl:f<w.heap.size:=hF.lt f hF.sf;have HXW:Hid (FW w x):=hx;have HT:Hid (x.p.tab=t):=ht;have hrl:1≤room∧room≤256:=⟨hF.r1,hF.r2⟩
  rw[hw0]at HWr;have hpt:=hp t ht8';clear hx hd hw0 ht0 ht8 htt hF hp hv hform ht;obtain⟨l,hl⟩:∃ l,l=L t:=⟨_,rfl⟩
  rw[← hl]at hln hcv HV hpt;have HLt:Hid (l=L t):=hl;have HPl:Hid (P t=l.map Fe.p):=hpt.symm;rw[← hpt]at hR hP;clear hl hpt;have HLW:Hid (∀ y∈l,FW w y∧∀ b,InF y b→S b∧b≠f∧∀ u,u<8→(V u).ownBlock≠some b):=(show ∀ y∈l,_ from fun y hy=>HF.out.1.en t ht8' y (by rw[← HLt.out];exact hy))
  have HOW:Hid (∀ W,Below w.heap.size w W→OwnE 0 W (.slice a l.length cap) l):=(show ∀ W,_ from fun W gW=>by
   have:=HF.out.1.row t ht8';rw[HV.out,← HLt.out]at this;exact ownE_below this gW)
  obtain⟨I,hI⟩:∃ I,I=idxV (l.map Fe.p) (twinB x.p):=⟨_,rfl⟩
  have hIb:=idxV_lt (l.map Fe.p) (twinB x.p);rw[← hI,List.length_map]at hIb;obtain⟨C,hC⟩:∃ C,C=(l.map Fe.p).any (clashB x.p):=⟨_,rfl⟩
  have HIx:Hid (∀ W,Below w.heap.size w W→w.heap.size<W.heap.size→Be W w.heap.size 0 x→Calls prog 50 #[.slice a l.length cap,.func (.func 51) #[] #[.pointer (some ⟨w.heap.size,0,none⟩)]] W fun e w'=>e=.returned (.int .i64 I)∧Below W.heap.size W w'):=(show ∀ W,_ from fun W gW hz hB=>by
   rw[hI,← idxV_map];exact idx_any 51 _ enA (fun y=>twinB x.p y.p) 0 _ l W (HOW.out W gW) (by omega) (fun W2 y hy g2=>by
    have g:=btr gW g2 (Nat.le_refl _);exact addF_any x y w.heap.size W2 (by have:=g2.size;omega) (hB.below hz g2) (HXW.out.below g) ((HLW.out y hy).1.below g)))
  have HCl:Hid (∀ W,Below w.heap.size w W→Calls prog 53 #[feV x,.slice a l.length cap] W fun e w'=>e=.returned (.bool C)∧Below W.heap.size W w'):=(show ∀ W,_ from fun W gW=>by
   have:=clashes_any x 0 (.slice a l.length cap) l W (HXW.out.below gW) (HOW.out W gW) (by omega) (fun y hy=>(HLW.out y hy).1.below gW);rw[hC,List.any_map];exact this)
  have HR:Hid (addR room P x.p chk=addE room (l.map Fe.p) x.p chk):=hR;have HP:Hid (addT room P x.p chk=upd P t (addL room (l.map Fe.p) x.p chk)):=hP;have HI:Hid (I=idxV (l.map Fe.p) (twinB x.p)):=hI;have HC:Hid (C=(l.map Fe.p).any (clashB x.p)):=hC;clear hR hP hI hC;have HNo:Hid (∀ W,Below w.heap.size w W→addE room (l.map Fe.p) x.p chk≠0→∃ S',Fs W f S' room (addT room P x.p chk)∧Kept S w W∧∀ b,S' b→S b∨w.heap.size≤b):=(show ∀ W,_ from fun W gW he=>by
   refine⟨S,?_,Kept.of_below gW,fun b hb=>.inl hb⟩;have e:addT room P x.p chk=P:=by
    rw[HP.out];funext u;by_cases e:u=t
    ·subst e;rw[upd_same,HPl.out];unfold addL;rw[if_neg he]
    ·rw[upd_other _ _ _ e]
   rw[e];exact Fs.below ⟨V,L,HF.out.1,HF.out.2⟩ gW)
  cases hcc:(chk&&C)with
  | true =>
    obtain⟨hk,hC1⟩:chk=true∧C=true:=by simpa using hcc
    have HE:Hid (addE room (l.map Fe.p) x.p chk=28):=(show _=_ by unfold addE;rw[if_pos (by rw[← HC.out];exact hcc)])
    rw[hC1]at HCl;subst hk;clear hcc hC1 HC;rw[HR.out,HE.out];go_enter func25,ntmps25;go_wp2_with (refine load_E rfl (.tmp 4) rfl w.heap.size 0 x rfl HX.out ?_);refine HWr.out.mono ?_;rintro e w1 ⟨rfl,g1⟩;have HG1:Hid (Below w.heap.size w w1):=btr g0 g1 (Nat.le_refl _);have HX1:Hid (Be w1 w.heap.size 0 x):=HX.out.below (by simp) g1;have z1:=g1.size;simp at z1;have c0:w1.cell? ⟨w.heap.size,0,none⟩=some (.int .i64 (t:Int)):=by rw[← HT.out];exact HX1.out.cs.1
    have c1:w1.cell? ⟨f,1+t,none⟩=some (.slice a l.length cap):=(HG1.out.cell (p:=⟨f,1+t,none⟩) hfl).trans hcv;have ht8i:(t:Int)<8:=by omega
    clear g1;go_wp2_with fail;go_quiet (fail);obtain⟨U,hU⟩:∃ U,w1.drewN nq=U:=⟨_,rfl⟩
    rw[hU];have HGU:Hid (Below w.heap.size w U):=(show Below _ _ _ by rw[← hU];exact bdr HG1.out nq)
    have HXU:Hid (Be U w.heap.size 0 x):=(show Be _ _ _ _ by rw[← hU];exact HX1.out)
    have zU:w.heap.size+1≤U.heap.size:=by rw[← hU];exact z1
    clear hU c0 c1 z1;go_wp2_with fail;refine(HIx.out U HGU.out (by omega) HXU.out).mono ?_;rintro e w2 ⟨rfl,g2⟩;have HG2:Hid (Below w.heap.size w w2):=btr HGU.out g2 (Nat.le_refl _);have HX2:Hid (Be w2 w.heap.size 0 x):=HXU.out.below (by omega) g2;clear g2;go_wp2_with (refine load_E rfl (.tmp 4) rfl w.heap.size 0 x rfl HX2.out ?_);refine(HCl.out w2 HG2.out).mono ?_;rintro e w3 ⟨rfl,g3⟩;have HG3:Hid (Below w.heap.size w w3):=btr HG2.out g3 (Nat.le_refl _);clear g3;go_wp2_with fail;go_ret;exact⟨rfl,HNo.out _ HG3.out (by rw[HE.out];decide)⟩
  | false =>
    have hk:chk=false∨(chk=true∧C=false):=by
     cases chk
     ·exact .inl rfl
     ·exact .inr ⟨rfl,by simpa using hcc⟩
    have HE0:Hid (addE room (l.map Fe.p) x.p chk=if (l.map Fe.p).any (twinB x.p)=true then 0 else if room≤(l.map Fe.p).length then 27 else 0):=(show _=_ by unfold addE;rw[if_neg (by rw[← HC.out,hcc];decide)])
    clear hcc HC;by_cases hIp:0≤I
    ·obtain⟨i,rfl⟩:=Int.eq_ofNat_of_zero_le hIp;obtain⟨hput,_,hany⟩:=putL_at HI.out.symm;have hil:i<l.length:=by omega
     have HE:Hid (addE room (l.map Fe.p) x.p chk=0):=(show _=_ by rw[HE0.out,if_pos hany])
     have hne:l≠[]:=by intro e;rw[e]at hil;cases hil
     obtain⟨gb,cap',hvv,_,hgb,hnc,hcm⟩:=OwnE.form (HOW.out w (Below.refl _ _)) hne;simp only[Value.slice.injEq]at hvv;obtain⟨rfl,_,rfl⟩:=hvv;have hgs:=HF.out.1.sr t ht8' gb (by rw[HV.out];rfl);have HPut:Hid (∀ R y,R.ownsRow 0 76 10 (.slice (some ⟨gb,0,none⟩) l.length cap) l.length (flatE (l.set i y))→w.grownBy R (some gb)→FW R y→y.p=x.p→(∀ b,InF y b→w.heap.size≤b)→∃ S',Fs R f S' room (addT room P x.p chk)∧Kept S w R∧∀ b,S' b→S b∨w.heap.size≤b):=(show ∀ R y,_ from fun R y hor hgr hyw hyp hyi=>by
      obtain⟨hFl,hp⟩:=HF.out;rw[HP.out];have hfb:R.heap[f]? = w.heap[f]?:=hgr.block f hfl (fun e=>hgs.2 (Option.some.inj e).symm);refine⟨more S w R,⟨upd V t (V t),upd L t (l.set i y),?_,?_⟩,kept_gby (f:=f) (Below.refl _ _) hgr hgs.1,more_sub⟩
      ·refine hFl.update ht8' hgr.size (fun b hb _ hne=>hgr.block b hb (fun e=>hne (by rw[HV.out];exact e.symm))) (fun o _=>World.cell?_of_block (w:=w) hfb) ((World.cell?_of_block (w:=w) hfb).trans (hFl.cv t ht8')) (fun o=>World.frozen?_of_block (w:=w) hfb) ?_ (.inl rfl) ?_ ?_
       ·unfold OwnE;rw[HV.out,List.length_set];exact hor
       ·intro z hz;rcases List.mem_or_eq_of_mem_set hz with hz|rfl
        ·obtain⟨z1,z2⟩:=HLW.out z hz;refine⟨z1.stay hgr.size (fun b hb hlt=>hgr.block b hlt (fun e=>(z2 b hb).2.2 t ht8' (by rw[HV.out];exact e.symm))),fun b hb=>⟨.inl ⟨z,by rw[← HLt.out];exact hz,hb⟩,(z2 b hb).2.2 t ht8'⟩⟩
        ·refine⟨hyw,fun b hb=>⟨.inr (hyi b hb),?_⟩⟩;rw[HV.out];intro e;have e':gb=b:=Option.some.inj e;have:=hyi b hb;omega
       ·rw[List.length_set,HLt.out];exact hFl.nm t ht8'
      ·intro u hu;by_cases e:u=t
       ·subst e;rw[upd_same,upd_same];unfold addL;rw[if_pos HE.out,hput,List.map_set,hyp]
       ·rw[upd_other _ _ _ e,upd_other _ _ _ e];exact hp u hu)
     have h0:(0:Int)≤(i:Int):=by omega
     rw[HR.out,HE.out];clear hput hany HE0 HE hne HI HNo;rcases hk with rfl|⟨rfl,hCf⟩
     ·go_enter func25,ntmps25;go_wp2_with (refine load_E rfl (.tmp 4) rfl w.heap.size 0 x rfl HX.out ?_);refine HWr.out.mono ?_;rintro e w1 ⟨rfl,g1⟩;have HG1:Hid (Below w.heap.size w w1):=btr g0 g1 (Nat.le_refl _);have HX1:Hid (Be w1 w.heap.size 0 x):=HX.out.below (by simp) g1;have z1:=g1.size;simp at z1;have c0:w1.cell? ⟨w.heap.size,0,none⟩=some (.int .i64 (t:Int)):=by rw[← HT.out];exact HX1.out.cs.1
      have c1:w1.cell? ⟨f,1+t,none⟩=some (.slice (some ⟨gb,0,none⟩) l.length cap):=(HG1.out.cell (p:=⟨f,1+t,none⟩) hfl).trans hcv;have ht8i:(t:Int)<8:=by omega
      clear g1;go_wp2_with fail;go_quiet (fail);obtain⟨U,hU⟩:∃ U,w1.drewN nq=U:=⟨_,rfl⟩
      rw[hU];have HGU:Hid (Below w.heap.size w U):=(show Below _ _ _ by rw[← hU];exact bdr HG1.out nq)
      have HXU:Hid (Be U w.heap.size 0 x):=(show Be _ _ _ _ by rw[← hU];exact HX1.out)
      have zU:w.heap.size+1≤U.heap.size:=by rw[← hU];exact z1
      clear hU c0 c1 z1;go_wp2_with fail;refine(HIx.out U HGU.out (by omega) HXU.out).mono ?_;rintro e w3 ⟨rfl,g3⟩;have HG3:Hid (Below w.heap.size w w3):=btr HGU.out g3 (Nat.le_refl _);have HX3:Hid (Be w3 w.heap.size 0 x):=HXU.out.below (by omega) g3;have z3:w.heap.size+1≤w3.heap.size:=by have:=g3.size;omega
      clear g3;go_wp2_with (refine load_E rfl (.tmp 4) rfl w.heap.size 0 x rfl HX3.out ?_);refine(copyOf_any x w3 (HXW.out.below HG3.out)).mono ?_;rintro e w4 ⟨y,rfl,hyp,hyw,hyi,g4⟩;have HY:Hid (y.p=x.p∧FW w4 y∧(∀ b,InF y b→w3.heap.size≤b)):=(show _∧_ from⟨hyp,hyw,hyi⟩)
      have HG4:Hid (Below w.heap.size w w4):=btr HG3.out g4 (Nat.le_refl _);clear hyp hyw hyi g4;go_wp2_with (refine store_E rfl (.tmp 55) (.tmp 54) rfl gb (i*10) y (by simp[Act.eval,Act.put]) rfl (OwnE.there rfl (HOW.out w4 HG4.out) i hil) ?_;intro R hR bR tR oR;have HOR:Hid (R.ownsRow 0 76 10 (.slice (some ⟨gb,0,none⟩) l.length cap) l.length (flatE (l.set i y))):=(show World.ownsRow _ _ _ _ _ _ _ from(by rw[hR];exact OwnE.set rfl (HOW.out w4 HG4.out) i hil y));have HGR:Hid (w.grownBy R (some gb)):=gby_only (gby_of_below _ HG4.out) oR (.inr rfl);have HZR:Hid (FW R y):=HY.out.2.1.stay (by rw[oR.size];exact Nat.le_refl _) (fun b hb _=>oR.block b (by have:=HY.out.2.2 b hb;omega));clear hR bR tR oR);go_ret;exact⟨rfl,HPut.out R y HOR.out HGR.out HZR.out HY.out.1 (fun b hb=>by have:=HY.out.2.2 b hb;omega)⟩
     ·rw[hCf]at HCl;clear hCf;go_enter func25,ntmps25;go_wp2_with (refine load_E rfl (.tmp 4) rfl w.heap.size 0 x rfl HX.out ?_);refine HWr.out.mono ?_;rintro e w1 ⟨rfl,g1⟩;have HG1:Hid (Below w.heap.size w w1):=btr g0 g1 (Nat.le_refl _);have HX1:Hid (Be w1 w.heap.size 0 x):=HX.out.below (by simp) g1;have z1:=g1.size;simp at z1;have c0:w1.cell? ⟨w.heap.size,0,none⟩=some (.int .i64 (t:Int)):=by rw[← HT.out];exact HX1.out.cs.1
      have c1:w1.cell? ⟨f,1+t,none⟩=some (.slice (some ⟨gb,0,none⟩) l.length cap):=(HG1.out.cell (p:=⟨f,1+t,none⟩) hfl).trans hcv;have ht8i:(t:Int)<8:=by omega
      clear g1;go_wp2_with fail;go_quiet (fail);obtain⟨U,hU⟩:∃ U,w1.drewN nq=U:=⟨_,rfl⟩
      rw[hU];have HGU:Hid (Below w.heap.size w U):=(show Below _ _ _ by rw[← hU];exact bdr HG1.out nq)
      have HXU:Hid (Be U w.heap.size 0 x):=(show Be _ _ _ _ by rw[← hU];exact HX1.out)
      have zU:w.heap.size+1≤U.heap.size:=by rw[← hU];exact z1
      clear hU c0 c1 z1;go_wp2_with fail;refine(HIx.out U HGU.out (by omega) HXU.out).mono ?_;rintro e w2 ⟨rfl,g2⟩;have HG2:Hid (Below w.heap.size w w2):=btr HGU.out g2 (Nat.le_refl _);have HX2:Hid (Be w2 w.heap.size 0 x):=HXU.out.below (by omega) g2;have z2:=g2.size;clear g2;go_wp2_with (refine load_E rfl (.tmp 4) rfl w.heap.size 0 x rfl HX2.out ?_);refine(HCl.out w2 HG2.out).mono ?_;rintro e w3 ⟨rfl,g3⟩;have HG3:Hid (Below w.heap.size w w3):=btr HG2.out g3 (Nat.le_refl _);have HX3:Hid (Be w3 w.heap.size 0 x):=HX2.out.below (by omega) g3;have z3:w.heap.size+1≤w3.heap.size:=by have:=g3.size;omega
      clear g3;go_wp2_with (refine load_E rfl (.tmp 4) rfl w.heap.size 0 x rfl HX3.out ?_);refine(copyOf_any x w3 (HXW.out.below HG3.out)).mono ?_;rintro e w4 ⟨y,rfl,hyp,hyw,hyi,g4⟩;have HY:Hid (y.p=x.p∧FW w4 y∧(∀ b,InF y b→w3.heap.size≤b)):=(show _∧_ from⟨hyp,hyw,hyi⟩)
      have HG4:Hid (Below w.heap.size w w4):=btr HG3.out g4 (Nat.le_refl _);clear hyp hyw hyi g4;go_wp2_with (refine store_E rfl (.tmp 55) (.tmp 54) rfl gb (i*10) y (by simp[Act.eval,Act.put]) rfl (OwnE.there rfl (HOW.out w4 HG4.out) i hil) ?_;intro R hR bR tR oR;have HOR:Hid (R.ownsRow 0 76 10 (.slice (some ⟨gb,0,none⟩) l.length cap) l.length (flatE (l.set i y))):=(show World.ownsRow _ _ _ _ _ _ _ from(by rw[hR];exact OwnE.set rfl (HOW.out w4 HG4.out) i hil y));have HGR:Hid (w.grownBy R (some gb)):=gby_only (gby_of_below _ HG4.out) oR (.inr rfl);have HZR:Hid (FW R y):=HY.out.2.1.stay (by rw[oR.size];exact Nat.le_refl _) (fun b hb _=>oR.block b (by have:=HY.out.2.2 b hb;omega));clear hR bR tR oR);go_ret;exact⟨rfl,HPut.out R y HOR.out HGR.out HZR.out HY.out.1 (fun b hb=>by have:=HY.out.2.2 b hb;omega)⟩
    ·have hI1:I = -1:=by omega
     subst hI1;obtain⟨hput,hany⟩:=putL_none HI.out.symm;by_cases hro:room≤(l.length:Int)
     ·have HE:Hid (addE room (l.map Fe.p) x.p chk=27):=(show _=_ by rw[HE0.out,if_neg (by rw[hany];decide),if_pos (by simpa using hro)])
      rw[HR.out,HE.out];clear hput hany HE0 HI;rcases hk with rfl|⟨rfl,hCf⟩
      ·go_enter func25,ntmps25;go_wp2_with (refine load_E rfl (.tmp 4) rfl w.heap.size 0 x rfl HX.out ?_);refine HWr.out.mono ?_;rintro e w1 ⟨rfl,g1⟩;have HG1:Hid (Below w.heap.size w w1):=btr g0 g1 (Nat.le_refl _);have HX1:Hid (Be w1 w.heap.size 0 x):=HX.out.below (by simp) g1;have z1:=g1.size;simp at z1;have c0:w1.cell? ⟨w.heap.size,0,none⟩=some (.int .i64 (t:Int)):=by rw[← HT.out];exact HX1.out.cs.1
       have c1:w1.cell? ⟨f,1+t,none⟩=some (.slice a l.length cap):=(HG1.out.cell (p:=⟨f,1+t,none⟩) hfl).trans hcv;have ht8i:(t:Int)<8:=by omega
       clear g1;go_wp2_with fail;go_quiet (fail);obtain⟨U,hU⟩:∃ U,w1.drewN nq=U:=⟨_,rfl⟩
       rw[hU];have HGU:Hid (Below w.heap.size w U):=(show Below _ _ _ by rw[← hU];exact bdr HG1.out nq)
       have HXU:Hid (Be U w.heap.size 0 x):=(show Be _ _ _ _ by rw[← hU];exact HX1.out)
       have zU:w.heap.size+1≤U.heap.size:=by rw[← hU];exact z1
       clear hU c0 c1 z1;go_wp2_with fail;refine(HIx.out U HGU.out (by omega) HXU.out).mono ?_;rintro e w3 ⟨rfl,g3⟩;have HG3:Hid (Below w.heap.size w w3):=btr HGU.out g3 (Nat.le_refl _);have HX3:Hid (Be w3 w.heap.size 0 x):=HXU.out.below (by omega) g3;have z3:w.heap.size+1≤w3.heap.size:=by have:=g3.size;omega
       clear g3;have rm3:w3.cell? ⟨f,0,none⟩=some (.int .i64 room):=(HG3.out.cell (p:=⟨f,0,none⟩) hfl).trans hrm;go_wp2_with fail;go_ret;exact⟨rfl,HNo.out _ HG3.out (by rw[HE.out];decide)⟩
      ·rw[hCf]at HCl;clear hCf;go_enter func25,ntmps25;go_wp2_with (refine load_E rfl (.tmp 4) rfl w.heap.size 0 x rfl HX.out ?_);refine HWr.out.mono ?_;rintro e w1 ⟨rfl,g1⟩;have HG1:Hid (Below w.heap.size w w1):=btr g0 g1 (Nat.le_refl _);have HX1:Hid (Be w1 w.heap.size 0 x):=HX.out.below (by simp) g1;have z1:=g1.size;simp at z1;have c0:w1.cell? ⟨w.heap.size,0,none⟩=some (.int .i64 (t:Int)):=by rw[← HT.out];exact HX1.out.cs.1
       have c1:w1.cell? ⟨f,1+t,none⟩=some (.slice a l.length cap):=(HG1.out.cell (p:=⟨f,1+t,none⟩) hfl).trans hcv;have ht8i:(t:Int)<8:=by omega
       clear g1;go_wp2_with fail;go_quiet (fail);obtain⟨U,hU⟩:∃ U,w1.drewN nq=U:=⟨_,rfl⟩
       rw[hU];have HGU:Hid (Below w.heap.size w U):=(show Below _ _ _ by rw[← hU];exact bdr HG1.out nq)
       have HXU:Hid (Be U w.heap.size 0 x):=(show Be _ _ _ _ by rw[← hU];exact HX1.out)
       have zU:w.heap.size+1≤U.heap.size:=by rw[← hU];exact z1
       clear hU c0 c1 z1;go_wp2_with fail;refine(HIx.out U HGU.out (by omega) HXU.out).mono ?_;rintro e w2 ⟨rfl,g2⟩;have HG2:Hid (Below w.heap.size w w2):=btr HGU.out g2 (Nat.le_refl _);have HX2:Hid (Be w2 w.heap.size 0 x):=HXU.out.below (by omega) g2;have z2:=g2.size;clear g2;go_wp2_with (refine load_E rfl (.tmp 4) rfl w.heap.size 0 x rfl HX2.out ?_);refine(HCl.out w2 HG2.out).mono ?_;rintro e w3 ⟨rfl,g3⟩;have HG3:Hid (Below w.heap.size w w3):=btr HG2.out g3 (Nat.le_refl _);have HX3:Hid (Be w3 w.heap.size 0 x):=HX2.out.below (by omega) g3;have z3:w.heap.size+1≤w3.heap.size:=by have:=g3.size;omega
       clear g3;have rm3:w3.cell? ⟨f,0,none⟩=some (.int .i64 room):=(HG3.out.cell (p:=⟨f,0,none⟩) hfl).trans hrm;go_wp2_with fail;go_ret;exact⟨rfl,HNo.out _ HG3.out (by rw[HE.out];decide)⟩
     ·have HE:Hid (addE room (l.map Fe.p) x.p chk=0):=(show _=_ by rw[HE0.out,if_neg (by rw[hany];decide),if_neg (by simpa using hro)])
      obtain⟨E,hE⟩:∃ E,E=endV x.p.pri (l.map Fe.p):=⟨_,rfl⟩
      have hEl:E≤l.length:=by rw[hE];have:=endV_le x.p.pri (l.map Fe.p);simpa using this
      have HEn:Hid (∀ W,Below w.heap.size w W→Calls prog 55 #[.int .i64 x.p.pri,.slice a l.length cap] W fun e w'=>e=.returned (.int .i64 (E:Int))∧Below W.heap.size W w'):=(show ∀ W,_ from fun W gW=>by
       rw[hE];exact endOf_any x.p.pri 0 _ l W (HOW.out W gW) (by omega))
      have hob:∀ b,(Value.slice a l.length cap).ownBlock=some b→S b∧b≠f∧b<w.heap.size:=fun b hb=>by
       have:=HF.out.1.sr t ht8' b (by rw[HV.out];exact hb);exact⟨this.1,this.2,HF.out.1.lt b this.1⟩
      have HIn:Hid (∀ w6 y,Below w.heap.size w w6→Calls prog 54 #[.slice a l.length cap,.int .i64 (E:Int),.slice (some ⟨w6.heap.size,0,none⟩) 1 1] (w6.alloc (.cells (feC y) 76)) fun e w'=>∃ v',e=.returned v'∧OwnE 0 w' v' (l.take E++y::l.drop E)∧(w6.alloc (.cells (feC y) 76)).grownBy w' (Value.slice a l.length cap).ownBlock∧Fresh (w6.alloc (.cells (feC y) 76)) (.slice a l.length cap) v'):=(show ∀ w6 y,_ from fun w6 y gW =>
       insert_any 0 _ l E hEl y w6.heap.size _ (HOW.out _ (btr gW (show Below w6.heap.size w6 (w6.alloc (.cells (feC y) 76))by go_grown) (Nat.le_refl _))) (by omega) (Nat.zero_le _) (heap_alloc_new w6 _) (fun e=>by have:=(hob _ e).2.2;have:=gW.size;omega))
      have HKp:Hid (∀ w6 y w8,Below w.heap.size w w6→w.heap.size+1≤w6.heap.size→(w6.alloc (.cells (feC y) 76)).grownBy w8 (Value.slice a l.length cap).ownBlock→w8.cell? ⟨f,1+t,none⟩=some (.slice a l.length cap)∧w8.frozen? ⟨f,1+t,none⟩=false∧w8.heap[w.heap.size]? = (w6.alloc (.cells (feC y) 76)).heap[w.heap.size]?):=(show ∀ w6 y w8,_ from fun w6 y w8 gW hz6 hg=>by
       have G:=btr gW (show Below w6.heap.size w6 (w6.alloc (.cells (feC y) 76))by go_grown) (Nat.le_refl _);have zG:(w6.alloc (.cells (feC y) 76)).heap.size=w6.heap.size+1:=by simp
       have hf1:w8.heap[f]? = w.heap[f]?:=(hg.block f (by omega) (fun e=>(hob f e.symm).2.1 rfl)).trans (G.block f hfl);exact⟨(World.cell?_of_block (w:=w) hf1).trans hcv,(World.frozen?_of_block (w:=w) hf1).trans hfz,hg.block _ (by omega) (fun e=>by have:=(hob _ e.symm).2.2;omega)⟩)
      have HIns:Hid (∀ w6 y w8 a8 n8 cap8,Below w.heap.size w w6→w.heap.size+1≤w6.heap.size→y.p=x.p→FW w6 y→(∀ b,InF y b→w.heap.size≤b)→(OwnE 0 w8 (.slice a8 n8 cap8) (l.take E++y::l.drop E)∧(w6.alloc (.cells (feC y) 76)).grownBy w8 (Value.slice a l.length cap).ownBlock∧Fresh (w6.alloc (.cells (feC y) 76)) (.slice a l.length cap) (.slice a8 n8 cap8))→∃ S',Fs (w8.setCell ⟨f,1+t,none⟩ (.slice a8 n8 cap8)) f S' room (addT room P x.p chk)∧Kept S w (w8.setCell ⟨f,1+t,none⟩ (.slice a8 n8 cap8))∧∀ b,S' b→S b∨w.heap.size≤b):=(show ∀ w6 y w8 a8 n8 cap8,_ from fun w6 y w8 a8 n8 cap8 gW hz6 hyp hyw hyi ⟨r1,r2,r3⟩=>by
       obtain⟨hFl,hp⟩:=HF.out;have ga:Below w6.heap.size w6 (w6.alloc (.cells (feC y) 76)):=by go_grown
       have zG:(w6.alloc (.cells (feC y) 76)).heap.size=w6.heap.size+1:=by simp
       have G1:w.grownBy w8 (Value.slice a l.length cap).ownBlock:=gby_trans (gby_of_below _ (btr gW ga (Nat.le_refl _))) r2;obtain⟨d1,d2,_⟩:=HKp.out w6 y w8 gW hz6 r2;obtain⟨U,hU⟩:∃ U,w8.setCell ⟨f,1+t,none⟩ (.slice a8 n8 cap8)=U:=⟨_,rfl⟩
       have oU:Only f w8 U:=by rw[← hU];exact(Only.refl _ _).setCell _ _
       rw[hU,HP.out];have zU:U.heap.size=w8.heap.size:=oU.size;have hv8:(Value.slice a8 n8 cap8).ownBlock=(V t).ownBlock∨∃ g,(Value.slice a8 n8 cap8).ownBlock=some g∧w6.heap.size<g:=by
        rw[HV.out];rcases r3 with e|⟨g,e,hge⟩
        ·exact .inl e
        ·exact .inr ⟨g,e,by omega⟩
       have hoz:∀ b,(Value.slice a8 n8 cap8).ownBlock=some b→b≠f:=fun b hb=>by
        rcases hv8 with e|⟨g,e,hge⟩
        ·exact(hFl.sr t ht8' b (by rw[← e];exact hb)).2
        ·rw[hb]at e;have e':b=g:=Option.some.inj e;omega
       have hfw:w8.heap[f]? = w.heap[f]?:=G1.block f hfl (fun e=>(hob f e.symm).2.1 rfl);refine⟨more S w U,⟨upd V t (.slice a8 n8 cap8),upd L t (l.take E++y::l.drop E),?_,?_⟩,⟨oU.os.trans G1.os,oU.tape.trans G1.tape,oU.output.trans G1.output,by rw[zU];exact G1.size,fun b hb hn=>(oU.block b (fun e=>hn (by rw[e];exact hFl.sf))).trans (G1.block b hb (fun e=>hn (hob b e.symm).1))⟩,more_sub⟩
       ·refine hFl.update ht8' (by rw[zU];exact G1.size) (fun b hb hbf hne=>(oU.block b hbf).trans (G1.block b hb (fun e=>hne (by rw[HV.out];exact e.symm)))) (fun o ho => ?_) ?_ (fun o => ?_) ?_ ?_ ?_ ?_
        ·rw[← hU,World.cell?_setCell_other _ _ _ _ (by simp)];exact World.cell?_of_block (w:=w) hfw
        ·rw[← hU];exact World.cell?_setCell_same _ _ _ d1
        ·rw[← hU,World.frozen?_setCell];exact World.frozen?_of_block (w:=w) hfw
        ·refine r1.kept (row:=some f) ⟨oU.os,oU.tape,oU.output,by rw[zU];exact Nat.le_refl _,fun k _ hk=>oU.block k (fun e=>hk (by rw[e]))⟩ ?_;cases hob2:(Value.slice a8 n8 cap8).ownBlock with
         | none=>exact .inl rfl
         | some b=>exact .inr (fun e=>hoz b hob2 (Option.some.inj e))
        ·rcases hv8 with e|⟨g,e,hge⟩
         ·exact .inl e
         ·exact .inr ⟨g,e,by have:=gW.size;omega⟩
        ·intro z hz;have hz2:z∈l∨z=y:=by
          rcases List.mem_append.1 hz with hz|hz
          ·exact .inl (List.mem_of_mem_take hz)
          ·rcases List.mem_cons.1 hz with hz|hz
           ·exact .inr hz
           ·exact .inl (List.mem_of_mem_drop hz)
         rcases hz2 with hz|rfl
         ·obtain⟨z1,z2⟩:=HLW.out z hz;refine⟨z1.stay (by rw[zU];exact G1.size) (fun b hb hlt=>(oU.block b (z2 b hb).2.1).trans (G1.block b hlt (fun e=>(z2 b hb).2.2 t ht8' (by rw[HV.out];exact e.symm)))),fun b hb=>⟨.inl ⟨z,by rw[← HLt.out];exact hz,hb⟩,?_⟩⟩;rcases hv8 with e|⟨g,e,hge⟩
          ·rw[e];exact(z2 b hb).2.2 t ht8'
          ·rw[e];intro e';have e2:g=b:=Option.some.inj e';have:=hFl.lt b (z2 b hb).1;have:=gW.size;omega
         ·have zl:∀ b,InF z b→b<w6.heap.size:=fun b hb=>hyw.lt hb;have z8:=r2.size;refine⟨hyw.stay (by rw[zU];omega) (fun b hb hlt => ?_),fun b hb=>⟨.inr (hyi b hb),?_⟩⟩
          ·have h1:=hyi b hb;rw[oU.block b (by omega),r2.block b (by omega) (fun e=>by have:=(hob b e.symm).2.2;omega)];exact ga.block b hlt
          ·have h1:=hyi b hb;have h2:=zl b hb;rcases hv8 with e|⟨g,e,hge⟩
           ·rw[e,HV.out];intro e';have:=(hob b e').2.2;omega
           ·rw[e];intro e';have e2:g=b:=Option.some.inj e';omega
        ·rw[put_mid l E y hEl];omega
       ·intro u hu;by_cases e:u=t
        ·subst e;rw[upd_same,upd_same];unfold addL;rw[if_pos HE.out,hput];unfold insL;rw[← hE,List.map_append,List.map_cons,List.map_take,List.map_drop,hyp]
        ·rw[upd_other _ _ _ e,upd_other _ _ _ e];exact hp u hu)
      rw[HR.out,HE.out];clear hput hany HE0 HI hE HE hob HNo;rcases hk with rfl|⟨rfl,hCf⟩
      ·go_enter func25,ntmps25;go_wp2_with (refine load_E rfl (.tmp 4) rfl w.heap.size 0 x rfl HX.out ?_);refine HWr.out.mono ?_;rintro e w1 ⟨rfl,g1⟩;have HG1:Hid (Below w.heap.size w w1):=btr g0 g1 (Nat.le_refl _);have HX1:Hid (Be w1 w.heap.size 0 x):=HX.out.below (by simp) g1;have z1:=g1.size;simp at z1;have c0:w1.cell? ⟨w.heap.size,0,none⟩=some (.int .i64 (t:Int)):=by rw[← HT.out];exact HX1.out.cs.1
       have c1:w1.cell? ⟨f,1+t,none⟩=some (.slice a l.length cap):=(HG1.out.cell (p:=⟨f,1+t,none⟩) hfl).trans hcv;have ht8i:(t:Int)<8:=by omega
       clear g1;go_wp2_with fail;go_quiet (fail);obtain⟨U,hU⟩:∃ U,w1.drewN nq=U:=⟨_,rfl⟩
       rw[hU];have HGU:Hid (Below w.heap.size w U):=(show Below _ _ _ by rw[← hU];exact bdr HG1.out nq)
       have HXU:Hid (Be U w.heap.size 0 x):=(show Be _ _ _ _ by rw[← hU];exact HX1.out)
       have zU:w.heap.size+1≤U.heap.size:=by rw[← hU];exact z1
       clear hU c0 c1 z1;go_wp2_with fail;refine(HIx.out U HGU.out (by omega) HXU.out).mono ?_;rintro e w3 ⟨rfl,g3⟩;have HG3:Hid (Below w.heap.size w w3):=btr HGU.out g3 (Nat.le_refl _);have HX3:Hid (Be w3 w.heap.size 0 x):=HXU.out.below (by omega) g3;have z3:w.heap.size+1≤w3.heap.size:=by have:=g3.size;omega
       clear g3;have rm3:w3.cell? ⟨f,0,none⟩=some (.int .i64 room):=(HG3.out.cell (p:=⟨f,0,none⟩) hfl).trans hrm;have HDW:Hid (Below w.heap.size w w3.drew):=HG3.out.drew;have HSX:Hid (∀ W,Be W w.heap.size 0 x→SX w.heap.size t x W):=(show ∀ W,_ from fun W hB=>sx_of HT.out hB)
       have HX4:Hid (Be w3.drew w.heap.size 0 x):=HX3.out;have HKs:Hid (∀ W v,Be W w.heap.size 0 x→Be (W.setCell ⟨f,1+t,none⟩ v) w.heap.size 0 x):=(show ∀ W v,_ from fun W v hB=>hB.block (((Only.refl f W).setCell (1+t) v).block _ (by omega)))
       have HCo:Hid (∀ W,Below w.heap.size w W→Calls prog 43 #[.agg #[.int .i64 (t:Int),.int .i64 x.p.pri,.slice x.ta x.p.lt.length x.tc,.slice x.aa x.p.la.length x.ca,.slice x.aw x.p.lw.length x.cw,.bool x.p.clr,.int .u64 x.p.mt,.int .u64 x.p.mm,.int .i64 x.p.met,.int .i64 x.p.go]] W fun e w'=>∃ y:Fe,e=.returned (feV y)∧y.p=x.p∧FW w' y∧(∀ b,InF y b→W.heap.size≤b)∧Below W.heap.size W w'):=(show ∀ W,_ from fun W gW=>by rw[← HT.out];exact copyOf_any x W (HXW.out.below gW))
       go_wp2_with fail
       go_region_held (SX w.heap.size t x) (first|exact HSX.out _ HX4.out|exact HSX.out _ HX5.out|exact HSX.out _ HX6.out|exact HSX.out _ HX7.out|exact HSX.out _ HX8.out|exact HSX.out _ (HKs.out _ _ HX8.out)|assumption)
        (first
        | (go_at_call 55;refine(HEn.out w3.drew HDW.out).mono ?_;rintro e w5 ⟨rfl,g5⟩;have HG5:Hid (Below w.heap.size w w5):=btr HDW.out g5 (Nat.le_refl _);have z5:w.heap.size+1≤w5.heap.size:=(by have h5:=g5.size;have e5:w3.drew.heap.size=w3.heap.size:=rfl;omega);have HX5:Hid (Be w5 w.heap.size 0 x):=HX4.out.below (show w.heap.size<w3.drew.heap.size from z3) g5;clear g5)
        | (go_at_call 43;refine(HCo.out w5 HG5.out).mono ?_;rintro e w6 ⟨y,rfl,hyp,hyw,hyi,g6⟩;have HY:Hid (y.p=x.p∧FW w6 y∧(∀ b,InF y b→w5.heap.size≤b)):=(show _∧_ from⟨hyp,hyw,hyi⟩);have HG6:Hid (Below w.heap.size w w6):=btr HG5.out g6 (Nat.le_refl _);have z6:w.heap.size+1≤w6.heap.size:=(by have h6:=g6.size;omega);have HX6:Hid (Be w6 w.heap.size 0 x):=HX5.out.below (by omega) g6;clear hyp hyw hyi g6;have HX7:Hid (Be (w6.alloc (.cells (feC y) 76)) w.heap.size 0 x):=HX6.out.below (B:=w6.heap.size) (by omega) (by go_grown))
        | (go_at_call 54;refine(HIn.out w6 y HG6.out).mono ?_;rintro e w8 ⟨v',rfl,hov,hgv,hfr⟩;obtain⟨a8,cap8,hv8,hf8⟩:=OwnE.form2 hov;obtain⟨n8,hn8⟩:∃ n,n=(l.take E++y::l.drop E).length:=⟨_,rfl⟩;rw[← hn8]at hv8;subst hv8;have HR8:Hid (OwnE 0 w8 (.slice a8 n8 cap8) (l.take E++y::l.drop E)∧(w6.alloc (.cells (feC y) 76)).grownBy w8 (Value.slice a l.length cap).ownBlock∧Fresh (w6.alloc (.cells (feC y) 76)) (.slice a l.length cap) (.slice a8 n8 cap8)):=(show _∧_ from⟨hov,hgv,hfr⟩);obtain⟨d1,d2,hb8⟩:=HKp.out w6 y w8 HG6.out z6 HR8.out.2.1;have HX8:Hid (Be w8 w.heap.size 0 x):=HX7.out.block hb8;clear hov hgv hfr hf8 hn8 hb8))
       go_wp2_with fail;go_ret;exact⟨rfl,HIns.out w6 y w8 a8 n8 cap8 HG6.out z6 HY.out.1 HY.out.2.1 (fun b hb=>by have:=HY.out.2.2 b hb;omega) HR8.out⟩
      ·rw[hCf]at HCl;clear hCf;go_enter func25,ntmps25;go_wp2_with (refine load_E rfl (.tmp 4) rfl w.heap.size 0 x rfl HX.out ?_);refine HWr.out.mono ?_;rintro e w1 ⟨rfl,g1⟩;have HG1:Hid (Below w.heap.size w w1):=btr g0 g1 (Nat.le_refl _);have HX1:Hid (Be w1 w.heap.size 0 x):=HX.out.below (by simp) g1;have z1:=g1.size;simp at z1;have c0:w1.cell? ⟨w.heap.size,0,none⟩=some (.int .i64 (t:Int)):=by rw[← HT.out];exact HX1.out.cs.1
       have c1:w1.cell? ⟨f,1+t,none⟩=some (.slice a l.length cap):=(HG1.out.cell (p:=⟨f,1+t,none⟩) hfl).trans hcv;have ht8i:(t:Int)<8:=by omega
       clear g1;go_wp2_with fail;go_quiet (fail);obtain⟨U,hU⟩:∃ U,w1.drewN nq=U:=⟨_,rfl⟩
       rw[hU];have HGU:Hid (Below w.heap.size w U):=(show Below _ _ _ by rw[← hU];exact bdr HG1.out nq)
       have HXU:Hid (Be U w.heap.size 0 x):=(show Be _ _ _ _ by rw[← hU];exact HX1.out)
       have zU:w.heap.size+1≤U.heap.size:=by rw[← hU];exact z1
       clear hU c0 c1 z1;go_wp2_with fail;refine(HIx.out U HGU.out (by omega) HXU.out).mono ?_;rintro e w2 ⟨rfl,g2⟩;have HG2:Hid (Below w.heap.size w w2):=btr HGU.out g2 (Nat.le_refl _);have HX2:Hid (Be w2 w.heap.size 0 x):=HXU.out.below (by omega) g2;have z2:=g2.size;clear g2;go_wp2_with (refine load_E rfl (.tmp 4) rfl w.heap.size 0 x rfl HX2.out ?_);refine(HCl.out w2 HG2.out).mono ?_;rintro e w3 ⟨rfl,g3⟩;have HG3:Hid (Below w.heap.size w w3):=btr HG2.out g3 (Nat.le_refl _);have HX3:Hid (Be w3 w.heap.size 0 x):=HX2.out.below (by omega) g3;have z3:w.heap.size+1≤w3.heap.size:=by have:=g3.size;omega
       clear g3;have rm3:w3.cell? ⟨f,0,none⟩=some (.int .i64 room):=(HG3.out.cell (p:=⟨f,0,none⟩) hfl).trans hrm;have HDW:Hid (Below w.heap.size w w3.drew):=HG3.out.drew;have HSX:Hid (∀ W,Be W w.heap.size 0 x→SX w.heap.size t x W):=(show ∀ W,_ from fun W hB=>sx_of HT.out hB)
       have HX4:Hid (Be w3.drew w.heap.size 0 x):=HX3.out;have HKs:Hid (∀ W v,Be W w.heap.size 0 x→Be (W.setCell ⟨f,1+t,none⟩ v) w.heap.size 0 x):=(show ∀ W v,_ from fun W v hB=>hB.block (((Only.refl f W).setCell (1+t) v).block _ (by omega)))
       have HCo:Hid (∀ W,Below w.heap.size w W→Calls prog 43 #[.agg #[.int .i64 (t:Int),.int .i64 x.p.pri,.slice x.ta x.p.lt.length x.tc,.slice x.aa x.p.la.length x.ca,.slice x.aw x.p.lw.length x.cw,.bool x.p.clr,.int .u64 x.p.mt,.int .u64 x.p.mm,.int .i64 x.p.met,.int .i64 x.p.go]] W fun e w'=>∃ y:Fe,e=.returned (feV y)∧y.p=x.p∧FW w' y∧(∀ b,InF y b→W.heap.size≤b)∧Below W.heap.size W w'):=(show ∀ W,_ from fun W gW=>by rw[← HT.out];exact copyOf_any x W (HXW.out.below gW))
       go_wp2_with fail
       go_region_held (SX w.heap.size t x) (first|exact HSX.out _ HX4.out|exact HSX.out _ HX5.out|exact HSX.out _ HX6.out|exact HSX.out _ HX7.out|exact HSX.out _ HX8.out|exact HSX.out _ (HKs.out _ _ HX8.out)|assumption)
        (first
        | (go_at_call 55;refine(HEn.out w3.drew HDW.out).mono ?_;rintro e w5 ⟨rfl,g5⟩;have HG5:Hid (Below w.heap.size w w5):=btr HDW.out g5 (Nat.le_refl _);have z5:w.heap.size+1≤w5.heap.size:=(by have h5:=g5.size;have e5:w3.drew.heap.size=w3.heap.size:=rfl;omega);have HX5:Hid (Be w5 w.heap.size 0 x):=HX4.out.below (show w.heap.size<w3.drew.heap.size from z3) g5;clear g5)
        | (go_at_call 43;refine(HCo.out w5 HG5.out).mono ?_;rintro e w6 ⟨y,rfl,hyp,hyw,hyi,g6⟩;have HY:Hid (y.p=x.p∧FW w6 y∧(∀ b,InF y b→w5.heap.size≤b)):=(show _∧_ from⟨hyp,hyw,hyi⟩);have HG6:Hid (Below w.heap.size w w6):=btr HG5.out g6 (Nat.le_refl _);have z6:w.heap.size+1≤w6.heap.size:=(by have h6:=g6.size;omega);have HX6:Hid (Be w6 w.heap.size 0 x):=HX5.out.below (by omega) g6;clear hyp hyw hyi g6;have HX7:Hid (Be (w6.alloc (.cells (feC y) 76)) w.heap.size 0 x):=HX6.out.below (B:=w6.heap.size) (by omega) (by go_grown))
        | (go_at_call 54;refine(HIn.out w6 y HG6.out).mono ?_;rintro e w8 ⟨v',rfl,hov,hgv,hfr⟩;obtain⟨a8,cap8,hv8,hf8⟩:=OwnE.form2 hov;obtain⟨n8,hn8⟩:∃ n,n=(l.take E++y::l.drop E).length:=⟨_,rfl⟩;rw[← hn8]at hv8;subst hv8;have HR8:Hid (OwnE 0 w8 (.slice a8 n8 cap8) (l.take E++y::l.drop E)∧(w6.alloc (.cells (feC y) 76)).grownBy w8 (Value.slice a l.length cap).ownBlock∧Fresh (w6.alloc (.cells (feC y) 76)) (.slice a l.length cap) (.slice a8 n8 cap8)):=(show _∧_ from⟨hov,hgv,hfr⟩);obtain⟨d1,d2,hb8⟩:=HKp.out w6 y w8 HG6.out z6 HR8.out.2.1;have HX8:Hid (Be w8 w.heap.size 0 x):=HX7.out.block hb8;clear hov hgv hfr hf8 hn8 hb8))
       go_wp2_with fail;go_ret;exact⟨rfl,HIns.out w6 y w8 a8 n8 cap8 HG6.out z6 HY.out.1 HY.out.2.1 (fun b hb=>by have:=HY.out.2.2 b hb;omega) HR8.out⟩
 ·have hR:addR room P x.p chk=wrongE x.p:=by unfold addR;rw[if_neg hw0]
  have hP:addT room P x.p chk=P:=by unfold addT;rw[if_neg hw0]
  rw[hP,hR];have HF:Hid (Fs w f S room P):=h;have hn:(wrongE x.p != 0)=true:=by simp[hw0]
  clear h hxB hd hP hw0 hR;generalize wrongE x.p=E at *
  go_enter func25,ntmps25;go_wp2_with (refine load_E rfl (.tmp 4) rfl w.heap.size 0 x rfl HX.out ?_);refine HWr.out.mono ?_;rintro e w1 ⟨rfl,g1⟩;have HG1:Hid (Below w.heap.size w w1):=btr g0 g1 (Nat.le_refl _);clear g1;go_wp2_with fail;go_ret;exact⟨rfl,S,HF.out.below HG1.out,Kept.of_below HG1.out,fun b hb=>.inl hb⟩
end Go.Proofs.YtgnihbdcdefdgaaGreatDoor

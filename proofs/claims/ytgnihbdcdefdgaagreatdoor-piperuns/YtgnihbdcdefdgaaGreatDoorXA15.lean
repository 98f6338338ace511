import Derived.Test.YtgnihbdcdefdgaaGreatDoorXA14
import Derived.Test.YtgnihbdcdefdgaaGreatDoorX12
set_option maxHeartbeats 1000000
set_option linter.unusedSimpArgs false
set_option linter.unusedVariables false
open Go.ChangeShapes Go.WideShapes Go.ChangeAt Go.RowKit
open Go.Proofs.Tryz
namespace Go.Proofs.YtgnihbdcdefdgaaGreatDoor
def Fp.k3 (x:Fp):Int × Int × List Mt.T:=(x.tab,x.k)
structure J (P:Nat→List Fp) (L:List Fp):Prop where
 p:∀ t:Nat,t<8→P t=L.filter (inT (t:Int))
 r:∀ y∈L,0≤y.tab∧y.tab<8
 dn:L.Pairwise (fun a b=>b.pri≤a.pri)
 nd:L.Pairwise (fun a b=>a.k3≠b.k3)
theorem J.nil:J (fun _=>[]) []:=⟨fun _ _=>rfl,by simp,List.Pairwise.nil,List.Pairwise.nil⟩
theorem J.tab {P:Nat→List Fp} {L:List Fp} (h:J P L) (t:Int):tabOf P t=L.filter (inT t):=by
 unfold tabOf;split
 ·rename_i ht;rw[h.p t.toNat (by omega),show((t.toNat:Nat):Int)=t by omega]
 ·rename_i ht;symm;rw[List.filter_eq_nil_iff];intro y hy e;have:=h.r y hy;unfold inT at e;have:y.tab=t:=by simpa using e
  omega
theorem upd_filter {P:Nat→List Fp} {L L':List Fp} {T:Nat} {l:List Fp} (h:∀ t:Nat,t<8→P t=L.filter (inT (t:Int))) (h1:T<8→l=L'.filter (inT (T:Int))) (h2:∀ t:Nat,t≠T→t<8→L'.filter (inT (t:Int))=L.filter (inT (t:Int))) :
 ∀ t:Nat,t<8→upd P T l t=L'.filter (inT (t:Int)):=fun t ht=>by
 by_cases e:t=T
 ·subst e;rw[upd_same];exact h1 ht
 ·rw[upd_other _ _ _ e,h t ht,h2 t e ht]
theorem filter_map_tab {L:List Fp} (f:Fp→Fp) (hf:∀ y∈L,(f y).tab=y.tab) (t:Int):(L.map f).filter (inT t)=(L.filter (inT t)).map f:=by
 rw[List.filter_map];congr 1;refine List.filter_congr fun y hy => ?_;simp only[Function.comp,inT,hf y hy]
theorem in_tab {y:Fp} {t:Int} (h:inT t y=true):y.tab=t:=by unfold inT at h;simpa using h
theorem set_map {l:List Fp} {i:Nat} (hi:i<l.length) (x:Fp) (p:Fp→Bool) (h:p l[i]=true) (hu:∀ j (hj:j<l.length),j≠i→p l[j]=false):l.set i x=l.map (fun y=>if p y=true then x else y):=by
 refine List.ext_getElem (by simp) fun j h1 h2 => ?_;rw[List.getElem_map];by_cases e:j=i
 ·subst e;rw[List.getElem_set_self,if_pos h]
 ·rw[List.getElem_set_ne (Ne.symm e),if_neg (by rw[hu j (by simpa using h1) e];decide)]
theorem insL_cons (y:Fp) (L:List Fp) (x:Fp):insL (y::L) x=if y.pri<x.pri then x::y::L else y::insL L x:=by
 unfold insL;rw[show endV x.pri (y::L)=if y.pri<x.pri then 0 else endV x.pri L+1 from rfl];split<;>simp
theorem insL_first {x:Fp}:∀ {L:List Fp},(∀ y∈L,y.pri<x.pri)→insL L x=x::L
 | [],_=>rfl
 | y::L,h=>by rw[insL_cons,if_pos (h y (by simp))]
theorem ins_filter (x:Fp) (t:Int) (ht:x.tab=t):∀ (L:List Fp),L.Pairwise (fun a b=>b.pri≤a.pri)→(insL L x).filter (inT t)=insL (L.filter (inT t)) x
 | [],_=>by simp[insL,endV,inT,ht]
 | y::L,hs=>by
   have hxt:inT t x=true:=by simp[inT,ht]
   rw[List.pairwise_cons]at hs;rw[insL_cons];split
   ·rename_i hp;rw[List.filter_cons_of_pos hxt,insL_first];intro z hz;rcases List.mem_cons.1 (List.mem_filter.1 hz).1 with h|h
    ·rw[h];exact hp
    ·have:=hs.1 z h;omega
   ·rename_i hp;by_cases hy:inT t y=true
    ·rw[List.filter_cons_of_pos hy,List.filter_cons_of_pos hy,insL_cons,if_neg hp,ins_filter x t ht L hs.2]
    ·rw[List.filter_cons_of_neg hy,List.filter_cons_of_neg hy,ins_filter x t ht L hs.2]
theorem ins_other (x:Fp) (t:Int) (ht:x.tab≠t) (L:List Fp):(insL L x).filter (inT t)=L.filter (inT t):=by
 unfold insL;rw[List.filter_append,List.filter_cons_of_neg (by simp[inT,ht]),← List.filter_append,List.take_append_drop]
theorem alike_k3 {x y:Fp}:alikeB x y=true↔x.k3=y.k3:=by
 unfold alikeB Fp.k3;rw[Bool.and_eq_true,twin_iff,beq_iff_eq];exact⟨fun h=>by rw[h.1,h.2],fun h=>⟨congrArg Prod.fst h,congrArg Prod.snd h⟩⟩
theorem any_clash {L:List Fp} (x:Fp):(L.filter (inT x.tab)).any (clashB x)=L.any (rclashB x):=by
 rw[List.any_filter];congr 1;funext y;unfold inT clashB rclashB;rw[meets_sym x.lt y.lt,show(x.pri==y.pri)=(y.pri==x.pri)from Bool.beq_comm,Bool.and_assoc]
theorem J.add {P:Nat→List Fp} {L L':List Fp} {room:Int} {x:Fp} {chk:Bool} {E:Int} (h:J P L) (ha:AddRel room L x chk E L'):E=addR room P x chk∧J (addT room P x chk) L':=by
 unfold addR addT;rcases ha with⟨hw,rfl,rfl⟩|⟨hw,hc,rfl,rfl⟩|⟨hw,hc,ha⟩
 ·rw[if_neg hw,if_neg hw];exact⟨rfl,h⟩
 ·obtain⟨h0,h8⟩:=wrong_tab hw;have hx:((x.tab.toNat:Nat):Int)=x.tab:=by omega
  have hE:addE room (P x.tab.toNat) x chk=28:=by
   unfold addE;rw[h.p _ (by omega),hx,any_clash,hc,if_pos rfl]
  rw[if_pos hw,if_pos hw,hE];refine⟨rfl,⟨upd_filter h.p (fun hT => ?_) (fun t ht ht8=>rfl),h.r,h.dn,h.nd⟩⟩;unfold addL;rw[hE,if_neg (by decide)];exact h.p _ hT
 ·obtain⟨h0,h8⟩:=wrong_tab hw;have hx:((x.tab.toNat:Nat):Int)=x.tab:=by omega
  have hc2:(chk&&(P x.tab.toNat).any (clashB x))=false:=by rw[h.p _ (by omega),hx,any_clash];exact hc
  rw[if_pos hw,if_pos hw];rcases ha with⟨i,hi,hal,rfl,rfl⟩|⟨hno,ha⟩
  ·have hk:=alike_k3.1 hal;have htab:x.tab=L[i].tab:=congrArg Prod.fst hk;have htw:(P x.tab.toNat).any (twinB x)=true:=by
    rw[List.any_eq_true,h.p _ (by omega),hx];exact⟨L[i],List.mem_filter.2 ⟨List.getElem_mem _,by simp[inT,htab]⟩,twin_iff.2 (congrArg Prod.snd hk)⟩
   have hE:addE room (P x.tab.toNat) x chk=0:=by
    unfold addE;rw[if_neg (by rw[hc2];decide),if_pos htw]
   have hu:∀ j (hj:j<L.length),j≠i→alikeB x L[j]=false:=fun j hj hne=>by
    cases hq:alikeB x L[j]with
    | false=>rfl
    | true =>
      have hk2:=alike_k3.1 hq;rcases Nat.lt_or_gt_of_ne hne with hlt|hlt
      ·exact absurd (hk2.symm.trans hk) (List.pairwise_iff_getElem.1 h.nd j i hj hi hlt)
      ·exact absurd (hk.symm.trans hk2) (List.pairwise_iff_getElem.1 h.nd i j hi hj hlt)
   have hset:L.set i x=L.map (fun y=>if alikeB x y=true then x else y):=set_map hi x _ hal hu;have hft:∀ y∈L,(if alikeB x y=true then x else y).tab=y.tab:=fun y _=>by
    split
    ·rename_i hq;exact congrArg Prod.fst (alike_k3.1 hq)
    ·rfl
   rw[hE];refine⟨rfl,⟨upd_filter h.p (fun hT => ?_) (fun t ht ht8 => ?_),fun y hy => ?_,?_,?_⟩⟩
   ·unfold addL;rw[hE,if_pos rfl,hset,filter_map_tab _ hft,h.p _ hT,hx];obtain⟨l,hl⟩:∃ l,l=L.filter (inT x.tab):=⟨_,rfl⟩
    rw[← hl];have hlt:∀ y∈l,y.tab=x.tab:=fun y hy=>by rw[hl]at hy;exact in_tab (List.mem_filter.1 hy).2
    have hnd:l.Pairwise (fun a b=>a.k3≠b.k3):=by rw[hl];exact h.nd.sublist List.filter_sublist
    rcases put_ways l x with⟨i',hi',e,hp⟩|⟨hn,hp⟩
    ·have h3:l[i'].k3=x.k3:=by unfold Fp.k3;rw[e,hlt _ (List.getElem_mem _)]
     rw[hp];refine set_map hi' x _ (alike_k3.2 h3.symm) fun j hj hne => ?_;cases hq:alikeB x l[j]with
     | false=>rfl
     | true =>
       have hk2:=alike_k3.1 hq;rcases Nat.lt_or_gt_of_ne hne with hlt'|hlt'
       ·exact absurd (hk2.symm.trans h3.symm) (List.pairwise_iff_getElem.1 hnd j i' hj hi' hlt')
       ·exact absurd (h3.trans hk2) (List.pairwise_iff_getElem.1 hnd i' j hi' hj hlt')
    ·exact absurd (congrArg Prod.snd hk).symm (hn L[i] (by rw[hl];exact List.mem_filter.2 ⟨List.getElem_mem _,by simp[inT,htab]⟩))
   ·rw[hset,filter_map_tab _ hft];conv=>rhs;rw[← List.map_id (L.filter (inT (t:Int)))]
    refine List.map_congr_left fun y hy => ?_;have hty:=in_tab (List.mem_filter.1 hy).2;rw[if_neg (fun hq=>by have:x.tab=y.tab:=congrArg Prod.fst (alike_k3.1 hq);omega)];rfl
   ·rcases List.mem_or_eq_of_mem_set hy with h1|h1
    ·exact h.r y h1
    ·rw[h1];exact⟨h0,h8⟩
   ·rw[hset,List.pairwise_map];have hp:∀ y:Fp,(if alikeB x y=true then x else y).pri=y.pri:=fun y=>by
     split
     ·rename_i hq;exact congrArg (fun z=>z.2.1) (alike_k3.1 hq)
     ·rfl
    exact h.dn.imp (fun hab=>by rw[hp,hp];exact hab)
   ·rw[hset,List.pairwise_map];have hp:∀ y:Fp,(if alikeB x y=true then x else y).k3=y.k3:=fun y=>by
     split
     ·rename_i hq;exact alike_k3.1 hq
     ·rfl
    exact h.nd.imp (fun hab=>by rw[hp,hp];exact hab)
  ·have htw:(P x.tab.toNat).any (twinB x)=false:=by
    rw[Bool.eq_false_iff,h.p _ (by omega),hx];intro ht;obtain⟨y,hy,hq⟩:=List.any_eq_true.1 ht;have hty:=in_tab (List.mem_filter.1 hy).2;have:=hno y (List.mem_filter.1 hy).1;unfold alikeB at this;rw[hq,hty]at this;simp at this
   have hlen:(L.filter (inT x.tab)).length=(P x.tab.toNat).length:=by rw[h.p _ (by omega),hx]
   rcases ha with⟨hf,rfl,rfl⟩|⟨hf,rfl,rfl⟩
   ·have hE:addE room (P x.tab.toNat) x chk=27:=by
     unfold addE;rw[if_neg (by rw[hc2];decide),if_neg (by rw[htw];decide),if_pos (by rw[← hlen];exact hf)]
    rw[hE];refine⟨rfl,⟨upd_filter h.p (fun hT => ?_) (fun t ht ht8=>rfl),h.r,h.dn,h.nd⟩⟩;unfold addL;rw[hE,if_neg (by decide)];exact h.p _ hT
   ·have hE:addE room (P x.tab.toNat) x chk=0:=by
     unfold addE;rw[if_neg (by rw[hc2];decide),if_neg (by rw[htw];decide),if_neg (by rw[← hlen];exact hf)]
    have hdk:(L.map Fp.k).Pairwise (fun a b=>b.1≤a.1):=by rw[List.pairwise_map];exact h.dn
    rw[hE];refine⟨rfl,⟨upd_filter h.p (fun hT => ?_) (fun t ht ht8 => ?_),fun y hy => ?_,?_,?_⟩⟩
    ·unfold addL;rw[hE,if_pos rfl,h.p _ hT,hx,ins_filter x x.tab rfl L h.dn];rcases put_ways (L.filter (inT x.tab)) x with⟨i',hi',e,hp⟩|⟨hn,hp⟩
     ·exfalso;have hm:=List.getElem_mem hi';have hty:=in_tab (List.mem_filter.1 hm).2;have:=hno _ (List.mem_filter.1 hm).1;rw[Bool.eq_false_iff]at this;exact this (alike_k3.2 (by unfold Fp.k3;rw[e,hty]))
     ·exact hp
    ·exact ins_other x t (by omega) L
    ·unfold insL at hy;simp only[List.mem_append,List.mem_cons]at hy;rcases hy with h1|rfl|h1
     ·exact h.r y (List.mem_of_mem_take h1)
     ·exact⟨h0,h8⟩
     ·exact h.r y (List.mem_of_mem_drop h1)
    ·exact ins_pairwise h.dn (fun a ha=>end_before x.pri L a ha) (fun b hb=>by have:=end_after x.pri L hdk b hb;omega)
    ·refine ins_pairwise h.nd (fun a ha e => ?_) (fun b hb e => ?_)
     ·have:=hno a (List.mem_of_mem_take ha);rw[Bool.eq_false_iff]at this;exact this (alike_k3.2 e.symm)
     ·have:=hno b (List.mem_of_mem_drop hb);rw[Bool.eq_false_iff]at this;exact this (alike_k3.2 e)
namespace Me
theorem rnew_no (r m:Int) (w:World) (h:(mayB r&&mayB m)=false) :
 Calls prog 34 #[.int .i64 r,.int .i64 m] w fun x w'=>x=.returned (.tuple #[.pointer none,.int .i64 1])∧w'=w:=by
 have h':r<0∨(0≤r∧4294967295<r)∨(0≤r∧r≤4294967295∧m<0)∨(0≤r∧r≤4294967295∧0≤m∧4294967295<m):=by
  unfold mayB at h;simp only[Bool.and_eq_false_iff,decide_eq_false_iff_not]at h;omega
 clear h;rcases h' with h1|⟨h1,h2⟩|⟨h1,h2,h3⟩|⟨h1,h2,h3,h4⟩
 all_goals
  go_enter func34,ntmps34;go_wp2;go_ret2
  exact⟨rfl,rfl⟩
theorem rnew_yes (r m:Int) (w:World) (h1:mayB r=true) (h2:mayB m=true) :
 Calls prog 34 #[.int .i64 r,.int .i64 m] w fun x w'=>x=.returned (.tuple #[.pointer (some ⟨w.heap.size,0,none⟩),.int .i64 0])∧w'=w.alloc (.cells #[.int .i64 r,.int .i64 m,.int .i64 m] 118):=by
 obtain⟨f1,f2,f3,f4,f5⟩:=mayB_fit h1 h2;clear h1 h2;go_enter func34,ntmps34;go_wp2;go_ret2
 exact⟨rfl,rfl⟩
theorem rtake_any (b:Nat) (r m l n:Int) (w:World) (k:Bk w b r m l) (f:Fit r m l) :
 Calls prog 75 #[.pointer (some ⟨b,0,none⟩),.int .i64 n] w fun x w'=>x=.returned (.tuple #[.bool (takB l n),.int .i64 (argE n)])∧Bk w' b r m (takeL l n)∧Only b w w':=by
 have K:=k;obtain⟨c0,c1,c2,fz⟩:=k;obtain⟨f1,f2,f3,f4,f5⟩:=f;by_cases hn:n<0
 ·have e1:argE n=1:=if_pos hn;have e2:takeL l n=l:=if_neg (by omega);have e3:takB l n=false:=by unfold takB;simp;omega
  rw[e1,e2,e3];clear e1 e2 e3;go_enter func75,ntmps75;go_wp2;go_ret2
  exact⟨rfl,K,Only.refl _ _⟩
 ·have e1:argE n=0:=if_neg hn;rw[e1];clear e1;by_cases hl:n≤l
  ·have e2:takeL l n=l-n:=if_pos ⟨by omega,hl⟩;have e3:takB l n=true:=by unfold takB;simp;omega
   rw[e2,e3];clear e2 e3;go_enter func75,ntmps75;go_wp2;go_ret2
   exact⟨rfl,K.set _,(Only.refl _ _).setCell _ _⟩
  ·have e2:takeL l n=l:=if_neg (by omega);have e3:takB l n=false:=by unfold takB;simp;omega
   rw[e2,e3];clear e2 e3;go_enter func75,ntmps75;go_wp2;go_ret2
   exact⟨rfl,K,Only.refl _ _⟩
end Me
end Go.Proofs.YtgnihbdcdefdgaaGreatDoor

import Derived.Test.YtgnihbdcdefdgaaGreatDoorX04
import Derived.Test.YtgnihbdcdefdgaaGreatDoorX01
import Derived.BigRegion
set_option maxHeartbeats 8000000
open Go.ChangeShapes Go.WideShapes Go.ChangeAt Go.RowKit
open Go.Proofs.Tryz
namespace Go.Proofs.YtgnihbdcdefdgaaGreatDoor
namespace Sr
def placeV (k:Int):Int:=if k=4 then 1 else if k=3 then 2 else if k=5 then 3 else if k=2 then 4 else if k=1 then 5 else 0
def cmpV (x y:Int):Int:=if x<y then -1 else if y<x then 1 else 0
def bpV (a b:A):Int:=if a.1=5∧b.1=5 then cmpV a.2.1 b.2.1 else cmpV (placeV a.1) (placeV b.1)
def kap (a:A):Int:=placeV a.1*36893488147419103232+(if a.1=5 then a.2.1 else 0)
def knownB (a:A):Bool:=!(placeV a.1==0)
def knownL (l:List A):List A:=l.filter knownB
def mergeV (l:List A):List A:=lastOf kap (isort kap (knownL l))
theorem place_five (k:Int):placeV k=3↔k=5:=by unfold placeV;(repeat' split)<;>omega
theorem place_range (k:Int):0≤placeV k∧placeV k≤5:=by unfold placeV;(repeat' split)<;>omega
theorem cmpV_lt (x y:Int):cmpV x y<0↔x<y:=by unfold cmpV;(repeat' split)<;>omega
theorem cmpV_eq (x y:Int):cmpV x y=0↔x=y:=by unfold cmpV;(repeat' split)<;>omega
theorem kap_lt {a b:A} (ha:AW a) (hb:AW b):kap a<kap b↔(placeV a.1<placeV b.1∨placeV a.1=placeV b.1∧a.1=5∧a.2.1<b.2.1):=by
 obtain⟨a0,a1,_,_⟩:=ha;obtain⟨b0,b1,_,_⟩:=hb;have p1:=place_range a.1;have p2:=place_range b.1;have f1:=place_five a.1;have f2:=place_five b.1;unfold kap;by_cases h1:a.1=5
 ·rw[if_pos h1];by_cases h2:b.1=5
  ·rw[if_pos h2];omega
  ·rw[if_neg h2];omega
 ·rw[if_neg h1];by_cases h2:b.1=5
  ·rw[if_pos h2];omega
  ·rw[if_neg h2];omega
theorem kap_eq {a b:A} (ha:AW a) (hb:AW b):kap a=kap b↔(placeV a.1=placeV b.1∧(a.1=5→a.2.1=b.2.1)):=by
 obtain⟨a0,a1,_,_⟩:=ha;obtain⟨b0,b1,_,_⟩:=hb;have p1:=place_range a.1;have p2:=place_range b.1;have f1:=place_five a.1;have f2:=place_five b.1;unfold kap;by_cases h1:a.1=5
 ·rw[if_pos h1];by_cases h2:b.1=5
  ·rw[if_pos h2];omega
  ·rw[if_neg h2];omega
 ·rw[if_neg h1];by_cases h2:b.1=5
  ·rw[if_pos h2];omega
  ·rw[if_neg h2];omega
theorem bpV_lt {a b:A} (ha:AW a) (hb:AW b):bpV a b<0↔kap a<kap b:=by
 rw[kap_lt ha hb];have f1:=place_five a.1;have f2:=place_five b.1;unfold bpV;split
 ·next h=>rw[cmpV_lt];omega
 ·next h=>rw[cmpV_lt];omega
theorem bpV_eq {a b:A} (ha:AW a) (hb:AW b):bpV a b=0↔kap a=kap b:=by
 rw[kap_eq ha hb];have f1:=place_five a.1;have f2:=place_five b.1;unfold bpV;split
 ·next h=>rw[cmpV_eq];omega
 ·next h=>rw[cmpV_eq];omega
theorem mem_isort (l:List A) (z:A):z∈isort kap l↔z∈l:=by
 have h:=isort_fc (κ:=kap) l (kap z);have e:∀ m:List A,z∈m↔z∈fc kap (kap z) m:=fun m=>by simp[fc]
 rw[e,h,← e]
theorem mem_merge {l:List A} {z:A} (h:z∈mergeV l):z∈l∧knownB z=true:=by
 have:=(mem_isort _ _).1 (lastOf_mem _ z h);exact List.mem_filter.1 this
theorem merge_aws {l:List A} (h:AWs l):AWs (mergeV l):=fun z hz=>h z (mem_merge hz).1
theorem merge_strict (l:List A):(mergeV l).Pairwise (fun x y=>kap x<kap y):=(lastOf_order _ (isort_sorted _)).1
theorem merge_fc (l:List A) (c:Int):fc kap c (mergeV l)=lastL (fc kap c (knownL l)):=by
 unfold mergeV;rw[(lastOf_order _ (isort_sorted _)).2 c,isort_fc]
theorem merge_is {l m:List A} (h:m.Pairwise (fun x y=>kap x≤kap y)) (g:∀ c,fc kap c m=lastL (fc kap c (knownL l))):m=mergeV l :=
 order_one _ _ (lt_le (merge_strict l)) h fun c=>by rw[g,merge_fc]
theorem known_append (l m:List A):knownL (l++m)=knownL l++knownL m:=List.filter_append ..
def aheadB (a b:A):Bool:=decide (placeV a.1<placeV b.1)||(decide (placeV a.1=placeV b.1)&&(decide (a.1=5)&&decide (a.2.1<b.2.1)))
def alikeB (a b:A):Bool:=decide (a.1=b.1)&&(!decide (a.1=5)||decide (a.2.1=b.2.1))
def insR (x:A):List A→List A
 | []=>[x]
 | y::t=>if aheadB y x=true then y::insR x t else x::y::t
def lastIn (x:A) (rest:List A):Bool:=knownB x&&rest.all fun y=>!alikeB x y
def rmergeGo:List A→List A→List A
 | out,[]=>out
 | out,x::rest=>if lastIn x rest=true then rmergeGo (insR x out) rest else rmergeGo out rest
theorem ahead_iff {a b:A} (ha:AW a) (hb:AW b):aheadB a b=true↔kap a<kap b:=by
 rw[kap_lt ha hb];unfold aheadB;simp
theorem known_place {a:A}:knownB a=true↔placeV a.1≠0:=by unfold knownB;simp
theorem place_inj {j k:Int} (h:placeV j=placeV k) (g:placeV j≠0):j=k:=by
 unfold placeV at h g;revert h g;(repeat' split)<;>omega
theorem alike_iff {a b:A} (ha:AW a) (hb:AW b) (hk:knownB a=true):alikeB a b=true↔kap a=kap b:=by
 rw[kap_eq ha hb];have:=known_place.1 hk;unfold alikeB;simp only[Bool.and_eq_true,Bool.or_eq_true,decide_eq_true_eq,Bool.not_eq_true',decide_eq_false_iff_not];constructor
 ·rintro⟨h1,h2⟩;refine⟨by rw[h1],fun h5 => ?_⟩;rcases h2 with h2|h2
  ·exact absurd h5 h2
  ·exact h2
 ·rintro⟨h1,h2⟩;refine⟨place_inj h1 this,?_⟩;by_cases h5:a.1=5
  ·exact .inr (h2 h5)
  ·exact .inl h5
theorem mem_insR (x:A):∀ (l:List A) (z:A),z∈insR x l↔z=x∨z∈l
 | [],z=>by simp[insR]
 | y::t,z=>by
   unfold insR;split
   ·rw[List.mem_cons,mem_insR x t z,List.mem_cons];constructor
    ·rintro(h|h|h)<;>simp[h]
    ·rintro(h|h|h)<;>simp[h]
   ·rw[List.mem_cons]
theorem insR_sorted (x:A) (hx:AW x):∀ (l:List A),AWs l→l.Pairwise (fun x y=>kap x≤kap y)→(insR x l).Pairwise (fun x y=>kap x≤kap y)
 | [],_,_=>by simp[insR]
 | y::t,hw,h=>by
   unfold insR;obtain⟨h1,h2⟩:=List.pairwise_cons.1 h;have ha:=ahead_iff (hw y List.mem_cons_self) hx;split
   ·next hk =>
    have:=ha.1 hk;refine List.pairwise_cons.2 ⟨fun z hz => ?_,insR_sorted x hx t (fun z hz=>hw z (List.mem_cons_of_mem _ hz)) h2⟩;rcases(mem_insR x t z).1 hz with e|e
    ·rw[e];omega
    ·exact h1 z e
   ·next hk =>
    have : ¬ kap y<kap x:=fun g=>hk (ha.2 g);refine List.pairwise_cons.2 ⟨fun z hz => ?_,h⟩;rcases List.mem_cons.1 hz with e|e
    ·rw[e];omega
    ·have:=h1 z e;omega
theorem insR_other (x:A) (c:Int) (hc:kap x≠c):∀ (l:List A),fc kap c (insR x l)=fc kap c l
 | []=>by simp[insR,hc]
 | y::t=>by
   unfold insR;split
   ·have ih:=insR_other x c hc t;simp only[fc,List.filter_cons]at ih ⊢;rw[ih]
   ·simp[fc,List.filter_cons,hc]
theorem insR_own (x:A):∀ (l:List A),(∀ z∈l,kap z≠kap x)→fc kap (kap x) (insR x l)=[x]
 | [],_=>by simp[insR]
 | y::t,h=>by
   have hy:kap y≠kap x:=h y List.mem_cons_self;unfold insR;split
   ·have ih:=insR_own x t fun z hz=>h z (List.mem_cons_of_mem _ hz);simp only[fc,List.filter_cons]at ih ⊢;rw[ih];simp[hy]
   ·have e:fc kap (kap x) (y::t)=[]:=fc_none h;unfold fc at e ⊢;rw[List.filter_cons,e];simp
theorem rmergeGo_is:∀ (l out:List A),AWs l→AWs out→out.Pairwise (fun x y=>kap x≤kap y)→(∀ z∈out,∀ y∈l,kap z≠kap y) →
 (rmergeGo out l).Pairwise (fun x y=>kap x≤kap y)∧∀ c,fc kap c (rmergeGo out l)=fc kap c out++lastL (fc kap c (knownL l))
 | [],out,_,_,h,_=>⟨h,fun c=>by simp[rmergeGo,knownL,lastL]⟩
 | x::rest,out,hl,ho,h,hd=>by
   have hx:=hl x List.mem_cons_self;have hr:AWs rest:=fun z hz=>hl z (List.mem_cons_of_mem _ hz);have hdr:∀ z∈out,∀ y∈rest,kap z≠kap y:=fun z hz y hy=>hd z hz y (List.mem_cons_of_mem _ hy);unfold rmergeGo;split
   ·next hlast =>
    unfold lastIn at hlast;rw[Bool.and_eq_true,List.all_eq_true]at hlast;obtain⟨hk,hno⟩:=hlast;have hno':∀ y∈rest,kap x≠kap y:=fun y hy e=>by
     have a1:=(alike_iff hx (hr y hy) hk).2 e;have:=hno y hy;rw[a1]at this;exact absurd this (by decide)
    obtain⟨i1,i2⟩:=rmergeGo_is rest (insR x out) hr (fun z hz=>by
     rcases(mem_insR x out z).1 hz with e|e
     ·rw[e];exact hx
     ·exact ho z e) (insR_sorted x hx out ho h) (fun z hz y hy=>by
     rcases(mem_insR x out z).1 hz with e|e
     ·rw[e];exact hno' y hy
     ·exact hdr z e y hy)
    refine⟨i1,fun c => ?_⟩;rw[i2 c];have ek:knownL (x::rest)=x::knownL rest:=by unfold knownL;rw[List.filter_cons,if_pos hk]
    rw[ek];by_cases q:kap x=c
    ·subst q;rw[insR_own x out fun z hz=>hd z hz x List.mem_cons_self];have e1:fc kap (kap x) out=[]:=fc_none fun z hz=>hd z hz x List.mem_cons_self;have e2:fc kap (kap x) (knownL rest)=[]:=fc_none fun z hz=>(hno' z (List.mem_filter.1 hz).1).symm;have e3:fc kap (kap x) (x::knownL rest)=x::fc kap (kap x) (knownL rest):=by simp[fc]
     rw[e1,e3,e2];rfl
    ·rw[insR_other x c q];have e3:fc kap c (x::knownL rest)=fc kap c (knownL rest):=by simp[fc,q]
     rw[e3]
   ·next hlast =>
    obtain⟨i1,i2⟩:=rmergeGo_is rest out hr ho h hdr;refine⟨i1,fun c => ?_⟩;rw[i2 c];congr 1;by_cases hk:knownB x=true
    ·have ek:knownL (x::rest)=x::knownL rest:=by unfold knownL;rw[List.filter_cons,if_pos hk]
     rw[ek];by_cases q:kap x=c
     ·have e3:fc kap c (x::knownL rest)=x::fc kap c (knownL rest):=by simp[fc,q]
      rw[e3,lastL_cons];intro hnil;apply hlast;unfold lastIn;rw[Bool.and_eq_true,List.all_eq_true];refine⟨hk,fun y hy => ?_⟩;cases ha:alikeB x y with
      | false=>rfl
      | true =>
        have e:=(alike_iff hx (hr y hy) hk).1 ha;have hky:knownB y=true:=by
         have h1:=known_place.1 hk;have h2:=((kap_eq hx (hr y hy)).1 e).1;exact known_place.2 (by rw[← h2];exact h1)
        have:y∈fc kap c (knownL rest):=List.mem_filter.2 ⟨List.mem_filter.2 ⟨hy,hky⟩,by simp[← e,q]⟩;rw[hnil]at this;cases this
     ·have e3:fc kap c (x::knownL rest)=fc kap c (knownL rest):=by simp[fc,q]
      rw[e3]
    ·have ek:knownL (x::rest)=knownL rest:=by unfold knownL;rw[List.filter_cons,if_neg hk]
     rw[ek]
theorem rmerge_is (l:List A) (h:AWs l):rmergeGo [] l=mergeV l:=by
 obtain⟨h1,h2⟩:=rmergeGo_is l [] h (by simp) List.Pairwise.nil (by simp);exact merge_is h1 fun c=>by rw[h2 c];rfl
structure Rw (w:World) (b:Nat) (d:List A):Prop where
 cells:∀ i,i<d.length→C3 w b (i*3) (at' d i)
 mark:∀ o,w.frozen? ⟨b,o,none⟩=false
 lt:b<w.heap.size
theorem Rw.below {w w':World} {b:Nat} {d:List A} (h:Rw w b d) (g:Below w.heap.size w w'):Rw w' b d :=
 ⟨fun i hi=>(h.cells i hi).below h.lt g,fun o=>(World.frozen?_of_block (w:=w) (g.block b h.lt)).trans (h.mark o),Nat.lt_of_lt_of_le h.lt g.size⟩
abbrev put3 (w:World) (b o:Nat) (t:A):World:=((w.setCell ⟨b,o,none⟩ (.int .i64 t.1)).setCell ⟨b,o+1,none⟩ (.int .i64 t.2.1)).setCell ⟨b,o+2,none⟩ (.int .u64 t.2.2)
theorem put3_same {w:World} {b o:Nat} {u:A} (h:C3 w b o u) (t:A):C3 (put3 w b o t) b o t:=by
 obtain⟨h0,h1,h2⟩:=h;have e0:(w.setCell ⟨b,o,none⟩ (.int .i64 t.1)).cell? ⟨b,o+1,none⟩=some (.int .i64 u.2.1):=(World.cell?_setCell_other _ _ _ _ (by simp)).trans h1;have e1:((w.setCell ⟨b,o,none⟩ (.int .i64 t.1)).setCell ⟨b,o+1,none⟩ (.int .i64 t.2.1)).cell? ⟨b,o+2,none⟩=some (.int .u64 u.2.2):=(World.cell?_setCell_other _ _ _ _ (by simp)).trans ((World.cell?_setCell_other _ _ _ _ (by simp)).trans h2);exact⟨(World.cell?_setCell_other _ _ _ _ (by simp)).trans ((World.cell?_setCell_other _ _ _ _ (by simp)).trans (World.cell?_setCell_same _ _ _ h0)),(World.cell?_setCell_other _ _ _ _ (by simp)).trans (World.cell?_setCell_same _ _ _ e0),World.cell?_setCell_same _ _ _ e1⟩
theorem put3_other {w:World} {b o p:Nat} {u:A} (h:C3 w b p u) (t:A) (hp:p+2<o∨o+2<p):C3 (put3 w b o t) b p u:=by
 obtain⟨h0,h1,h2⟩:=h
 exact⟨(World.cell?_setCell_other _ _ _ _ (by first|(simp;done)|(simp;omega))).trans ((World.cell?_setCell_other _ _ _ _ (by first|(simp;done)|(simp;omega))).trans ((World.cell?_setCell_other _ _ _ _ (by first|(simp;done)|(simp;omega))).trans h0)),
  (World.cell?_setCell_other _ _ _ _ (by first|(simp;done)|(simp;omega))).trans ((World.cell?_setCell_other _ _ _ _ (by first|(simp;done)|(simp;omega))).trans ((World.cell?_setCell_other _ _ _ _ (by first|(simp;done)|(simp;omega))).trans h1)),
  (World.cell?_setCell_other _ _ _ _ (by first|(simp;done)|(simp;omega))).trans ((World.cell?_setCell_other _ _ _ _ (by first|(simp;done)|(simp;omega))).trans ((World.cell?_setCell_other _ _ _ _ (by first|(simp;done)|(simp;omega))).trans h2))⟩
theorem Rw.swap {w:World} {b:Nat} {d:List A} (h:Rw w b d) {i j:Nat} (hi:i<d.length) (hj:j<d.length) (hij:i≠j):Rw (put3 (put3 w b (i*3) (at' d j)) b (j*3) (at' d i)) b (swp d i j):=by
 refine⟨fun t ht => ?_,fun o=>by simp[h.mark o],by simpa using h.lt⟩;rw[swp_len]at ht;rw[swp_at d i j t hi hj];have ci:=put3_same (h.cells i hi) (at' d j);have cj:=put3_other (h.cells j hj) (at' d j) (o:=i*3) (by omega);by_cases e:j=t
 ·subst e;rw[if_pos rfl];exact put3_same cj _
 ·rw[if_neg e];by_cases f:i=t
  ·subst f;rw[if_pos rfl];exact put3_other ci _ (by omega)
  ·rw[if_neg f];exact put3_other (put3_other (h.cells t ht) _ (by omega)) _ (by omega)
theorem put3_below {a w:World} {k b o:Nat} (t:A) (g:Below k a w) (hk:k≤b):Below k a (put3 w b o t):=((g.setCell hk _).setCell hk _).setCell hk _
theorem Rw.drewN {w:World} {b:Nat} {d:List A} (h:Rw w b d) (n:Nat):Rw (w.drewN n) b d:=⟨h.cells,h.mark,h.lt⟩
theorem btr' {k:Nat} {a b c:World} (h:Below k a b) (g:Below k b c):Below k a c:=h.trans g
theorem swapRange_any (b a c n:Nat) (d:List A) (cap:Nat) (fv:Value) (w:World) (hr:Rw w b d) (hd:d.length≤1000) (h1:a+n≤c) (h2:c+n≤d.length) (D:Nat→List A) (hD0:D 0=d) (hD:∀ k,k<n→D (k+1)=swp (D k) (a+k) (c+k)) :
 Calls prog 246 #[.slice (some ⟨b,0,none⟩) d.length cap,.int .i64 a,.int .i64 c,.int .i64 n,fv] w fun e w'=>e=.returned (.tuple #[])∧Rw w' b (D n)∧Below b w w':=by
 have HD:Hid (∀ k,k<n→D (k+1)=swp (D k) (a+k) (c+k)):=hD;have HL:Hid (∀ k,k≤n→(D k).length=d.length):=(show ∀ k,k≤n→(D k).length=d.length from fun k=>by
  induction k with
  | zero=>intro _;rw[hD0]
  | succ k ih=>intro h;rw[hD k (by omega),swp_len];exact ih (by omega))
 clear hD;have HR:Hid (Rw w b (D 0)):=(show Rw w b (D 0)by rw[hD0];exact hr)
 clear hr hD0;go_enter func246,ntmps246;go_wp2;go_loopw [10] (fun i wr=>∃ k:Nat,k≤n∧i=.int .i64 k∧Hid (Rw wr b (D k))∧Below b w wr) (fun i _=>n-(intOf i).toNat);case atStart=>exact⟨0,by omega,rfl,HR,Below.refl _ _⟩
 case round =>
  obtain⟨k,hk,rfl,HK,hbel⟩:=hrel;by_cases hlt:k<n
  ·have hl:=HL.out k hk;have ci:=HK.out.cells (a+k) (by omega);have cj:=HK.out.cells (c+k) (by omega);have hfz:=HK.out.mark;have HN:Hid (Rw (put3 (put3 wr b ((a+k)*3) (at' (D k) (c+k))) b ((c+k)*3) (at' (D k) (a+k))) b (D (k+1))):=(show Rw _ b (D (k+1))by
    rw[HD.out k hlt];exact HK.out.swap (by omega) (by omega) (by omega))
   have hI:(a:Int)+(k:Int)=((a+k:Nat):Int):=by omega
   have hJ:(c:Int)+(k:Int)=((c+k:Nat):Int):=by omega
   have hi2:a+k<d.length:=by omega
   have hj2:c+k<d.length:=by omega
   have hne:a+k<c+k:=by omega
   generalize a+k=I at *
   generalize c+k=J at *
   generalize at' (D k) I=X at *
   generalize at' (D k) J=Y at *
   obtain⟨c0,c1,c2⟩:=ci;obtain⟨e0,e1,e2⟩:=cj;go_wp2_with fail;go_big_region
   have hb2:Below b w (put3 (put3 wr b (I*3) Y) b (J*3) X).drew:=(put3_below X (put3_below Y hbel (Nat.le_refl _)) (Nat.le_refl _)).drew;have HN2:Hid (Rw (put3 (put3 wr b (I*3) Y) b (J*3) X).drew b (D (k+1))):=(show Rw _ b _ from HN.out.drewN 1)
   clear c0 c1 c2 e0 e1 e2 HN HK hbel;generalize (put3 (put3 wr b (I*3) Y) b (J*3) X).drew=w2 at *
   go_wp2_with fail;go_roundw;case rel=>exact⟨k+1,by omega,by go_num,HN2,hb2⟩
   case measure=>simp[intOf];omega
  ·have hkn:k=n:=by omega
   subst hkn;go_wp2_with fail;go_end0;exact⟨rfl,HK.out,hbel⟩
theorem swapRange_lists (b a c:Nat) (x p q r y:List A) (cap:Nat) (fv:Value) (w:World) (len:Nat) (hlen:len=(x++(p++(q++(r++y)))).length) (hr:Rw w b (x++(p++(q++(r++y))))) (hd:len≤1000) (n:Nat) (hp:p.length=n) (hq:r.length=n) (ha:a=x.length) (hc:c=x.length+n+q.length) :
 Calls prog 246 #[.slice (some ⟨b,0,none⟩) len cap,.int .i64 a,.int .i64 c,.int .i64 n,fv] w fun e w'=>e=.returned (.tuple #[])∧Rw w' b (x++(r++(q++(p++y))))∧Below b w w':=by
 have key:=swapRange_any b a c n (x++(p++(q++(r++y)))) cap fv w hr (by omega) (by omega) (by simp only[List.length_append]at hlen ⊢;omega)
  (fun k=>(x++r.take k)++(p.drop k++(q++(p.take k++(r.drop k++y))))) (by simp) (fun k hk=>by
    have e1:p.drop k=p[k]::p.drop (k+1):=List.drop_eq_getElem_cons (by omega);have e2:r.drop k=r[k]::r.drop (k+1):=List.drop_eq_getElem_cons (by omega);have e3:p.take (k+1)=p.take k++[p[k]]:=List.take_succ_eq_append_getElem (by omega);have e4:r.take (k+1)=r.take k++[r[k]]:=List.take_succ_eq_append_getElem (by omega);have l1:(x++r.take k).length=a+k:=by rw[List.length_append,List.length_take];omega
    have l2:(p.drop (k+1)++(q++p.take k)).length+(a+k+1)=c+k:=by simp only[List.length_append,List.length_drop,List.length_take];omega
    have:=swp_parts (x++r.take k) (p.drop (k+1)++(q++p.take k)) (r.drop (k+1)++y) p[k] r[k];rw[l1,show a+k+1+(p.drop (k+1)++(q++p.take k)).length=c+k by omega]at this;rw[e1,e2,e3,e4];simp only[List.append_assoc,List.cons_append,List.nil_append]at this ⊢;exact this.symm)
 rw[hlen];refine key.mono fun e w' ⟨h1,h2,h3⟩=>⟨h1,?_,h3⟩
 have e1:p.take n=p:=List.take_of_length_le (by omega);have e2:r.take n=r:=List.take_of_length_le (by omega);have e3:p.drop n=[]:=List.drop_of_length_le (by omega);have e4:r.drop n=[]:=List.drop_of_length_le (by omega);simp only[e1,e2,e3,e4,List.nil_append,List.append_assoc]at h2;exact h2
structure Turn (m i j:Nat) (R dk:List A) (x u v y:List A):Prop where
 parts:dk=x++(u++(v++y))
 aim:R=x++(v++(u++y))
 hu:u.length=i
 hv:v.length=j
 hi:0<i
 hj:0<j
 hx:x.length+i=m
theorem Turn.len {m i j:Nat} {R dk x u v y:List A} (h:Turn m i j R dk x u v y):dk.length=R.length:=by
 rw[h.parts,h.aim];simp only[List.length_append];omega
theorem rotate_any (b a m e:Nat) (d:List A) (cap:Nat) (fv:Value) (w:World) (hr:Rw w b d) (hd:d.length≤1000) (h1:a<m) (h2:m<e) (h3:e≤d.length) :
 Calls prog 234 #[.slice (some ⟨b,0,none⟩) d.length cap,.int .i64 a,.int .i64 m,.int .i64 e,fv] w fun x w'=>x=.returned (.tuple #[])∧Rw w' b (rot a m e d)∧Below b w w':=by
 have HT0:Hid (Turn m (m-a) (e-m) (rot a m e d) d (d.take a) ((d.take m).drop a) ((d.take e).drop m) (d.drop e)) :=
  (show Turn _ _ _ _ _ _ _ _ _ from⟨rot_parts a m e d (by omega) (by omega),rfl,by rw[List.length_drop,List.length_take];omega,by rw[List.length_drop,List.length_take];omega,by omega,by omega,by rw[List.length_take];omega⟩)
 have hRl:(rot a m e d).length=d.length:=rot_len a m e d (by omega) (by omega) h3;have hi0:(m:Int)-(a:Int)=((m-a:Nat):Int):=by omega
 have hj0:(e:Int)-(m:Int)=((e-m:Nat):Int):=by omega
 have HR:Hid (Rw w b d):=hr
 have HS:Hid (∀ (a c:Nat) (x p q r y:List A) (w:World),d.length=(x++(p++(q++(r++y)))).length→Rw w b (x++(p++(q++(r++y))))→∀ n:Nat,p.length=n→r.length=n→a=x.length→c=x.length+n+q.length →
  Calls prog 246 #[.slice (some ⟨b,0,none⟩) d.length cap,.int .i64 a,.int .i64 c,.int .i64 n,fv] w fun e w'=>e=.returned (.tuple #[])∧Rw w' b (x++(r++(q++(p++y))))∧Below b w w') :=
  (show ∀ _,_ from fun a c x p q r y w hl hr n hp hq ha hc=>swapRange_lists b a c x p q r y cap fv w d.length hl hr hd n hp hq ha hc)
 clear hr;generalize rot a m e d=R at *
 generalize m-a=i0 at *
 generalize e-m=j0 at *
 go_enter func234,ntmps234;go_wp2;go_loopw [10,11] (fun vi vj wr=>∃ (i j:Nat) (dk x u v y:List A),vi=.int .i64 i∧vj=.int .i64 j∧Hid (Turn m i j R dk x u v y)∧Hid (Rw wr b dk)∧Below b w wr) (fun vi vj _=>(intOf vi).toNat+(intOf vj).toNat);case atStart=>exact⟨i0,j0,d,_,_,_,_,by first|rfl|rw[hi0],by first|rfl|rw[hj0],HT0,HR,Below.refl _ _⟩
 case round =>
  clear HT0 HR;obtain⟨i,j,dk,x,u,v,y,rfl,rfl,HT,HK,hbel⟩:=hrel;obtain⟨t1,t2,t3,t4,t5,t6,t7⟩:=HT.out;have hdl:dk.length=d.length:=by rw[HT.out.len,hRl]
  have hm1:m≤d.length:=by
   have:=congrArg List.length t1;simp only[List.length_append]at this;omega
  have hm2:m+j≤d.length:=by
   have:=congrArg List.length t1;simp only[List.length_append]at this;omega
  have HP:Hid (dk=x++(u++(v++y))):=t1;have HA:Hid (R=x++(v++(u++y))):=t2;have HU:Hid (u.length=i):=t3;have HV:Hid (v.length=j):=t4;clear t1 t2 t3 t4 HT;have e1:(m:Int)-(i:Int)=((m-i:Nat):Int):=by omega
  by_cases hij:i=j
  ·subst hij;have hb:((i:Int) != (i:Int))=false:=by simp
   have HC:Hid (∀ w,Rw w b dk→Calls prog 246 #[.slice (some ⟨b,0,none⟩) d.length cap,.int .i64 (m-i:Nat),.int .i64 m,.int .i64 i,fv] w fun e w'=>e=.returned (.tuple #[])∧Rw w' b R∧Below b w w'):=(show ∀ w,_ from fun w h=>by
    have q:=HS.out (m-i) m x u [] v y w (by rw[← hdl,HP.out];rfl) (by rw[HP.out]at h;exact h) i HU.out HV.out (by omega) (by simp;omega);rw[HA.out];exact q)
   clear HP HA HU HV HS hdl hRl;go_wp2_with fail;refine(HC.out _ HK.out).mono ?_;rintro r w1 ⟨rfl,k1,k2⟩;go_wp2_with fail;go_end0;exact⟨rfl,k1,btr' hbel k2⟩
  ·have hb:((i:Int) != (j:Int))=true:=by simp;omega
   by_cases hlt:j<i
   ·have HC:Hid (∀ w,Rw w b dk→Calls prog 246 #[.slice (some ⟨b,0,none⟩) d.length cap,.int .i64 (m-i:Nat),.int .i64 m,.int .i64 j,fv] w fun e w'=>e=.returned (.tuple #[])∧Rw w' b ((x++v)++(u.drop j++(u.take j++y)))∧Below b w w'):=(show ∀ w,_ from fun w h=>by
     have e2:u++(v++y)=u.take j++(u.drop j++(v++y)):=by rw[← List.append_assoc (u.take j),List.take_append_drop]
     have q:=HS.out (m-i) m x (u.take j) (u.drop j) v y w (by rw[← hdl,HP.out,e2]) (by rw[HP.out,e2]at h;exact h) j (by rw[List.length_take,HU.out];omega) HV.out (by omega) (by rw[List.length_drop,HU.out];omega);rw[List.append_assoc];exact q)
    have HT':Hid (Turn m (i-j) j R ((x++v)++(u.drop j++(u.take j++y))) (x++v) (u.drop j) (u.take j) y):=(show Turn _ _ _ _ _ _ _ _ _ from⟨rfl,by
     rw[HA.out,List.append_assoc,← List.append_assoc (u.take j),List.take_append_drop],by rw[List.length_drop,HU.out],by rw[List.length_take,HU.out];omega,by omega,by omega,by rw[List.length_append,HV.out];omega⟩)
    have e3:(i:Int)-(j:Int)=((i-j:Nat):Int):=by omega
    clear HP HA HU HV HS hdl hRl;go_wp2_with fail;refine(HC.out _ HK.out).mono ?_;rintro r w1 ⟨rfl,k1,k2⟩;go_wp2_with fail;go_roundw;case rel=>exact⟨i-j,j,_,_,_,_,_,by first|rfl|rw[e3],rfl,HT',k1,btr' hbel k2⟩
    case measure=>simp[intOf];omega
   ·have hlt' : ¬ (j:Int)<(i:Int):=by omega
    have HC:Hid (∀ w,Rw w b dk→Calls prog 246 #[.slice (some ⟨b,0,none⟩) d.length cap,.int .i64 (m-i:Nat),.int .i64 (m+j-i:Nat),.int .i64 i,fv] w fun e w'=>e=.returned (.tuple #[])∧Rw w' b (x++(v.drop (j-i)++(v.take (j-i)++(u++y))))∧Below b w w'):=(show ∀ w,_ from fun w h=>by
     have e2:v++y=v.take (j-i)++(v.drop (j-i)++y):=by rw[← List.append_assoc (v.take (j-i)),List.take_append_drop]
     have q:=HS.out (m-i) (m+j-i) x u (v.take (j-i)) (v.drop (j-i)) y w (by rw[← hdl,HP.out,e2]) (by rw[HP.out,e2]at h;exact h) i HU.out (by rw[List.length_drop,HV.out];omega) (by omega) (by rw[List.length_take,HV.out];omega);exact q)
    have HT':Hid (Turn m i (j-i) R (x++(v.drop (j-i)++(v.take (j-i)++(u++y)))) x (v.drop (j-i)) (v.take (j-i)) (u++y)):=(show Turn _ _ _ _ _ _ _ _ _ from⟨rfl,by
     rw[HA.out,← List.append_assoc (v.take (j-i)),List.take_append_drop],by rw[List.length_drop,HV.out];omega,by rw[List.length_take,HV.out];omega,by omega,by omega,by omega⟩)
    have e3:(j:Int)-(i:Int)=((j-i:Nat):Int):=by omega
    have e4:(m:Int)+(j:Int)-(i:Int)=((m+j-i:Nat):Int):=by omega
    clear HP HA HU HV HS hdl hRl;go_wp2_with fail;refine(HC.out _ HK.out).mono ?_;rintro r w1 ⟨rfl,k1,k2⟩;go_wp2_with fail;go_roundw;case rel=>exact⟨i,j-i,_,_,_,_,_,rfl,by first|rfl|rw[e3],HT',k1,btr' hbel k2⟩
    case measure=>simp[intOf];omega
theorem place_none {k:Int} (h1:(k==1)=false) (h2:(k==2)=false) (h3:(k==3)=false) (h4:(k==4)=false) (h5:(k==5)=false):placeV k=0:=by
 simp at h1 h2 h3 h4 h5;unfold placeV;simp[h1,h2,h3,h4,h5]
theorem place_any (k:Int) (w:World):Calls prog 150 #[.int .i64 k] w fun e w'=>e=.returned (.int .i64 (placeV k))∧w'=w:=by
 rcases kind_cases k with rfl|rfl|rfl|rfl|rfl|⟨b1,b2,b3,b4,b5⟩
 case inr.inr.inr.inr.inr =>
  rw[place_none b1 b2 b3 b4 b5];go_enter func150,ntmps150;go_wp2;go_ret;exact⟨rfl,rfl⟩
 all_goals
  go_enter func150,ntmps150;go_wp2;go_ret;exact⟨rfl,rfl⟩
theorem isNaN_any (x:Int) (w:World):Calls prog 206 #[.int .i64 x] w fun e w'=>e=.returned (.bool false)∧w'=w:=by
 go_enter func206,ntmps206;go_wp2;go_ret;simp
theorem compare_any (x y:Int) (w:World):Calls prog 153 #[.int .i64 x,.int .i64 y] w fun e w'=>e=.returned (.int .i64 (cmpV x y))∧w'=w:=by
 have HN:Hid (∀ x w,Calls prog 206 #[.int .i64 x] w fun e w'=>e=.returned (.bool false)∧w'=w):=isNaN_any;unfold cmpV;by_cases h1:x<y
 ·rw[if_pos h1];go_enter func153,ntmps153;go_wp2_with fail;refine(HN.out _ _).mono ?_;rintro r w1 ⟨rfl,rfl⟩;go_wp2_with fail;refine(HN.out _ _).mono ?_;rintro r w1 ⟨rfl,rfl⟩;go_wp2_with fail;go_ret;exact⟨rfl,rfl⟩
 ·rw[if_neg h1];by_cases h2:y<x
  ·rw[if_pos h2];go_enter func153,ntmps153;go_wp2_with fail;refine(HN.out _ _).mono ?_;rintro r w1 ⟨rfl,rfl⟩;go_wp2_with fail;refine(HN.out _ _).mono ?_;rintro r w1 ⟨rfl,rfl⟩;go_wp2_with fail;go_ret;exact⟨rfl,rfl⟩
  ·rw[if_neg h2];go_enter func153,ntmps153;go_wp2_with fail;refine(HN.out _ _).mono ?_;rintro r w1 ⟨rfl,rfl⟩;go_wp2_with fail;refine(HN.out _ _).mono ?_;rintro r w1 ⟨rfl,rfl⟩;go_wp2_with fail;go_ret;exact⟨rfl,rfl⟩
theorem byPlace_any (a b:A) (w:World):Calls prog 111 #[tV a,tV b] w fun e w'=>e=.returned (.int .i64 (bpV a b))∧Below w.heap.size w w':=by
 have HC:Hid (∀ x y w,Calls prog 153 #[.int .i64 x,.int .i64 y] w fun e w'=>e=.returned (.int .i64 (cmpV x y))∧w'=w):=compare_any;have HP:Hid (∀ k w,Calls prog 150 #[.int .i64 k] w fun e w'=>e=.returned (.int .i64 (placeV k))∧w'=w):=place_any;unfold bpV;cases h1:(a.1==5)with
 | true =>
   cases h2:(b.1==5)with
   | true =>
     have e1:a.1=5:=by simpa using h1
     have e2:b.1=5:=by simpa using h2
     rw[if_pos ⟨e1,e2⟩];clear e1 e2;go_enter func111,ntmps111;go_wp2_with fail;refine(HC.out _ _ _).mono ?_;rintro r w1 ⟨rfl,rfl⟩;go_wp2_with fail;go_ret;exact⟨rfl,by go_grown⟩
   | false =>
     have e2 : ¬ b.1=5:=by simpa using h2
     rw[if_neg (fun x=>e2 x.2)];clear e2;go_enter func111,ntmps111;go_wp2_with fail;go_quiet ((first|(go_at_call 150;exact Calls.quiet_of_same (HP.out _ _))|(go_at_call 153;exact Calls.quiet_of_same (HC.out _ _ _))));go_wp2_with fail;go_ret;exact⟨rfl,bdr (by go_grown) _⟩
 | false =>
   have e1 : ¬ a.1=5:=by simpa using h1
   rw[if_neg (fun x=>e1 x.1)];clear e1;go_enter func111,ntmps111;go_wp2_with fail;go_quiet ((first|(go_at_call 150;exact Calls.quiet_of_same (HP.out _ _))|(go_at_call 153;exact Calls.quiet_of_same (HC.out _ _ _))));go_wp2_with fail;go_ret;exact⟨rfl,bdr (by go_grown) _⟩
theorem Cl.aws {d d':List A} (h:Cl kap d d') (hd:AWs d):AWs d':=fun x hx=>by
 have:x∈fc kap (kap x) d':=List.mem_filter.2 ⟨hx,by simp⟩;rw[h]at this;exact hd x (List.mem_filter.1 this).1
theorem at_aw {d:List A} (h:AWs d) {i:Nat} (hi:i<d.length):AW (at' d i):=by
 rw[at_get d i hi];exact h _ (List.getElem_mem hi)
abbrev fvP:Value:=.func (.func 111) #[] #[]
theorem C3.grR {W:World} {b:Nat} {d:List A} (h:Rw W b d) {i:Nat} (hi:i<d.length) (n:GrT W):C3 n.w b (i*3) (at' d i):=(h.cells i hi).below h.lt n.h
theorem insertion_any (b a c:Nat) (d:List A) (cap:Nat) (w:World) (hr:Rw w b d) (hW:AWs d) (hd:d.length≤1000) (h1:a≤c) (h2:c≤d.length) :
 Calls prog 204 #[.slice (some ⟨b,0,none⟩) d.length cap,.int .i64 a,.int .i64 c,fvP] w fun e w'=>e=.returned (.tuple #[])∧∃ d',Rel kap a c d d'∧Srt kap a c d'∧Rw w' b d'∧Below b w w':=by
 have HR:Hid (Rw w b d):=hr;have HB:Hid (∀ x y w,Calls prog 111 #[tV x,tV y] w fun e w'=>e=.returned (.int .i64 (bpV x y))∧Below w.heap.size w w'):=byPlace_any;have HWs:Hid (AWs d):=hW;clear hr hW;go_enter func204,ntmps204;go_wp2;go_loopw [8] (fun vi wr=>∃ (i:Nat) (dk:List A),vi=.int .i64 i∧a<i∧(i≤c∨i=a+1)∧Hid (Rel kap a c d dk)∧Hid (Srt kap a i dk)∧Hid (Rw wr b dk)∧Below b w wr) (fun vi _=>c-(intOf vi).toNat);case atStart=>exact⟨a+1,d,by go_num,by omega,.inr rfl,(show Rel kap a c d d from Rel.refl _ _ _),(show Srt kap a (a+1) d from Srt.one _ _ _ (by omega)),HR,Below.refl _ _⟩
 case round =>
  clear HR;obtain⟨i,dk,rfl,hai,hic,HL,HS,HK,hbel⟩:=hrel;by_cases hlt:i<c
  ·have hltz:(i:Int)<(c:Int):=by omega
   go_wp2_with fail;go_loopw [9] (fun vj wr2=>∃ (j:Nat) (dj:List A),vj=.int .i64 j∧a≤j∧j≤i∧Hid (Rel kap a c d dj)∧Hid (Ins (κ:=kap) a i j dj)∧Hid (Rw wr2 b dj)∧Below b w wr2) (fun vj _=>(intOf vj).toNat);case atStart=>exact⟨i,dk,rfl,by omega,by omega,HL,(show Ins (κ:=kap) a i i dk from Ins.start HS.out),HK,hbel⟩
   case round =>
    clear HL HS HK hbel;obtain⟨j,dj,rfl,haj,hji,HL,HI,HK,hbel⟩:=hrel;have hlen:dj.length=d.length:=HL.out.len;by_cases hja:a<j
    ·have hjaz:(a:Int)<(j:Int):=by omega
     obtain⟨P,hP⟩:∃ P,j=P+1:=⟨j-1,by omega⟩
     have hawj:=at_aw (HL.out.cl.aws HWs.out) (show j<dj.length by omega);have hawp:=at_aw (HL.out.cl.aws HWs.out) (show P<dj.length by omega);have hbp:=bpV_lt hawj hawp;have q1:=C3.grR HK.out (show j<dj.length by omega);have q2:=C3.grR HK.out (show P<dj.length by omega);have ej1:(j:Int)-1=(P:Int):=by omega
     have lj:(j:Int)<(d.length:Int):=by omega
     have lj1:(P:Int)<(d.length:Int):=by omega
     have lj2:j<d.length:=by omega
     have lj3:P<d.length:=by omega
     have HP:Hid (j=P+1):=hP;have HKA:Hid (ka kap dj j<ka kap dj P↔bpV (at' dj j) (at' dj P)<0):=(show ka kap dj j<ka kap dj P↔bpV (at' dj j) (at' dj P)<0 from hbp.symm)
     have hPj:P<j:=by omega
     clear hbp hP hawj hawp;have hfz:=HK.out.mark;obtain⟨X,hX⟩:∃ X,at' dj j=X:=⟨_,rfl⟩
     obtain⟨Y,hY⟩:∃ Y,at' dj P=Y:=⟨_,rfl⟩
     rw[hX,hY]at HKA;simp only[hX]at q1;simp only[hY]at q2;have HXY:Hid (X=at' dj j∧Y=at' dj P):=⟨hX.symm,hY.symm⟩
     clear hX hY;have q10:=fun n=>(q1 n).1;have q11:=fun n=>(q1 n).2.1;have q12:=fun n=>(q1 n).2.2;have q20:=fun n=>(q2 n).1;have q21:=fun n=>(q2 n).2.1;have q22:=fun n=>(q2 n).2.2;have cb0:=q1 none;have cb1:=q2 none;clear q1 q2;by_cases hv:bpV X Y<0
     ·go_wp2_with fail;refine wp_region_grow (by kernel_rfl) (by kernel_rfl) ?_;repeat (go_big_quiet_step ((go_at_call 111;exact quiet_gr (HB.out _ _ _))))
      refine wpQuiet_nil ?_;rintro w1 hw';have g1:=gr_elim hw';clear q10 q11 q12 q20 q21 q22 hw';have HK1:Hid (Rw w1 b dj):=(show Rw w1 b dj from HK.out.below g1)
      have c1:=C3.below cb0 HK.out.lt g1;have c2:=C3.below cb1 HK.out.lt g1;obtain⟨c10,c11,c12⟩:=c1;obtain⟨c20,c21,c22⟩:=c2;have hfz1:=HK1.out.mark;have hbel1:Below b w w1:=btr' hbel (g1.mono (Nat.le_of_lt HK.out.lt));have HN1:Hid (Rw (put3 (put3 w1 b (j*3) Y) b (P*3) X) b (swp dj j P)):=(show Rw _ b _ by
       have e1:X=at' dj j:=HXY.out.1;have e2:Y=at' dj P:=HXY.out.2;rw[e1,e2];exact HK1.out.swap (by omega) (by omega) (by omega))
      go_wp2_with fail;go_big_region
      have hb2:Below b w (put3 (put3 w1 b (j*3) Y) b (P*3) X).drew:=(put3_below X (put3_below Y hbel1 (Nat.le_refl _)) (Nat.le_refl _)).drew;have HN2:Hid (Rw (put3 (put3 w1 b (j*3) Y) b (P*3) X).drew b (swp dj j P)):=(show Rw _ b _ from HN1.out.drewN 1)
      clear c10 c11 c12 c20 c21 c22 hfz1 HN1 HK1 hbel1;generalize (put3 (put3 w1 b (j*3) Y) b (P*3) X).drew=w2 at *
      go_wp2_with fail;go_roundw;case rel =>
       have hk:=HKA.out.2 hv;have hp:=HP.out;subst hp;exact⟨P,swp dj (P+1) P,by first|rfl|rw[ej1],by omega,by omega,(show Rel kap a c d _ from HL.out.trans (rel_swap dj P (by omega) (by omega) a c (by omega) (by omega)).1),(show Ins (κ:=kap) a i P _ from HI.out.step (by omega) hji (by omega) hk),HN2,hb2⟩
      case measure=>simp[intOf];omega
     ·have hs:j≤a∨ka kap dj (j-1)≤ka kap dj j:=.inr (by
       have e:j-1=P:=by omega
       rw[e];exact Int.not_lt.1 fun h=>hv (HKA.out.1 h))
      have HS:Hid (Srt kap a (i+1) dj):=(show Srt kap a (i+1) dj from HI.out.stop hji hs)
      clear hs;go_wp2_with fail;refine wp_region_grow (by kernel_rfl) (by kernel_rfl) ?_;repeat (go_big_quiet_step ((go_at_call 111;exact quiet_gr (HB.out _ _ _))))
      refine wpQuiet_nil ?_;rintro w1 hw';have g1:=gr_elim hw';clear q10 q11 q12 q20 q21 q22 hw';go_wp2_with fail;go_roundw;case rel=>exact⟨i+1,dj,by go_num,by omega,.inl (by omega),HL,HS,(show Rw w1 b dj from HK.out.below g1),btr' hbel (g1.mono (Nat.le_of_lt HK.out.lt))⟩
      case measure=>simp[intOf];omega
    ·have hja':j=a:=by omega
     have hjaz:decide ((a:Int)<(j:Int))=false:=decide_eq_false (by omega);have hjaz' : ¬ (a:Int)<(j:Int):=by omega
     have HS:Hid (Srt kap a (i+1) dj):=(show Srt kap a (i+1) dj from HI.out.stop hji (.inl (by omega)))
     clear hja';go_wp2_with fail;go_big_region
     go_wp2_with fail;go_roundw;case rel=>exact⟨i+1,dj,by go_num,by omega,.inl (by omega),HL,HS,(show Rw _ b dj from HK.out.drewN 1),hbel.drew⟩
     case measure=>simp[intOf];omega
  ·go_wp2_with fail;go_end0;exact⟨rfl,dk,HL.out,fun p q h1 h2 h3=>HS.out p q h1 h2 (by omega),HK.out,hbel⟩
end Sr
end Go.Proofs.YtgnihbdcdefdgaaGreatDoor

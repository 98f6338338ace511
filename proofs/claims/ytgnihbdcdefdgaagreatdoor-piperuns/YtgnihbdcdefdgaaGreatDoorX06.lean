import Derived.Test.YtgnihbdcdefdgaaGreatDoorX04
import Derived.Test.YtgnihbdcdefdgaaGreatDoorX05
set_option maxHeartbeats 8000000
set_option maxRecDepth 20000
open Go.ChangeShapes Go.WideShapes Go.ChangeAt Go.RowKit
open Go.Proofs.Tryz
namespace Go.Proofs.YtgnihbdcdefdgaaGreatDoor
namespace Sr
section
variable {κ:A→Int}
structure MvR (κ:A→Int) (a c k:Nat) (d dk:List A):Prop where
 rel:Rel κ a c d dk
 own:ka κ dk k=ka κ d a
 left:∀ t,a≤t→t<k→ka κ dk t=ka κ d (t+1)
 right:∀ t,k<t→ka κ dk t=ka κ d t
theorem MvR.start (a c:Nat) (d:List A):MvR κ a c a d d:=⟨Rel.refl _ _ _,rfl,fun t h1 h2=>by omega,fun _ _=>rfl⟩
theorem MvR.step {a c k:Nat} {d dk:List A} (h:MvR κ a c k d dk) (ha:a≤k) (hc:k+2≤c) (hl:c≤d.length) (hlt:ka κ d (k+1)<ka κ d a):MvR κ a c (k+1) d (swp dk k (k+1)):=by
 have hlen:k+1<dk.length:=by rw[h.rel.len];omega
 have e1:=h.own;have e2:=h.right (k+1) (by omega);obtain⟨r,es⟩:=rel_swap (κ:=κ) dk k hlen (by rw[e1,e2];omega) a c ha hc;have K:=fun t=>ka_swap (κ:=κ) dk k t hlen;rw[← es];refine⟨h.rel.trans r,?_,fun t h1 h2 => ?_,fun t h1 => ?_⟩
 ·rw[K,if_neg (by omega),if_pos rfl,e1]
 ·rw[K];by_cases q:k=t
  ·rw[if_pos q,e2,q]
  ·rw[if_neg q,if_neg (by omega)];exact h.left t h1 (by omega)
 ·rw[K,if_neg (by omega),if_neg (by omega)];exact h.right t (by omega)
theorem MvR.done {a c i:Nat} {d dk:List A} (h:MvR κ a c (i-1) d dk) (ha:a<i) (hic:i≤c) (s:Srt κ (a+1) c d) (lo:∀ t,a+1≤t→t<i→ka κ d t<ka κ d a) (hi:∀ t,i≤t→t<c→ka κ d a≤ka κ d t):Srt κ a c dk:=by
 intro p q h1 h2 h3;by_cases c1:q<i-1
 ·rw[h.left p h1 (by omega),h.left q (by omega) c1];exact s _ _ (by omega) (by omega) (by omega)
 ·by_cases c2:q=i-1
  ·subst c2;rw[h.own,h.left p h1 h2];exact Int.le_of_lt (lo _ (by omega) (by omega))
  ·rw[h.right q (by omega)];by_cases c3:p<i-1
   ·rw[h.left p h1 c3];exact Int.le_trans (Int.le_of_lt (lo _ (by omega) (by omega))) (hi q (by omega) h3)
   ·by_cases c4:p=i-1
    ·subst c4;rw[h.own];exact hi q (by omega) h3
    ·rw[h.right p (by omega)];exact s p q (by omega) h2 h3
structure MvL (κ:A→Int) (a m k:Nat) (d dk:List A):Prop where
 rel:Rel κ a (m+1) d dk
 own:ka κ dk k=ka κ d m
 right:∀ t,k<t→t≤m→ka κ dk t=ka κ d (t-1)
 left:∀ t,t<k→ka κ dk t=ka κ d t
theorem MvL.start (a m:Nat) (d:List A):MvL κ a m m d d:=⟨Rel.refl _ _ _,rfl,fun t h1 h2=>by omega,fun _ _=>rfl⟩
theorem MvL.step {a m k:Nat} {d dk:List A} (h:MvL κ a m (k+1) d dk) (ha:a≤k) (hm:k+1≤m) (hl:m<d.length) (hlt:ka κ d m<ka κ d k):MvL κ a m k d (swp dk (k+1) k):=by
 have hlen:k+1<dk.length:=by rw[h.rel.len];omega
 have e1:=h.own;have e2:=h.left k (by omega);obtain⟨r,_⟩:=rel_swap (κ:=κ) dk k hlen (by rw[e1,e2];omega) a (m+1) ha (by omega);have K:=fun t=>ka_swap (κ:=κ) dk k t hlen;refine⟨h.rel.trans r,?_,fun t h1 h2 => ?_,fun t h1 => ?_⟩
 ·rw[K,if_pos rfl,e1]
 ·rw[K,if_neg (by omega)];by_cases q:k+1=t
  ·rw[if_pos q,e2,← q];rfl
  ·rw[if_neg q];exact h.right t (by omega) h2
 ·rw[K,if_neg (by omega),if_neg (by omega)];exact h.left t (by omega)
theorem MvL.done {a m i:Nat} {d dk:List A} (h:MvL κ a m i d dk) (ha:a≤i) (hi:i≤m) (s:Srt κ a m d) (lo:∀ t,a≤t→t<i→ka κ d t≤ka κ d m) (hg:∀ t,i≤t→t<m→ka κ d m<ka κ d t):Srt κ a (m+1) dk:=by
 intro p q h1 h2 h3;by_cases c1:q<i
 ·rw[h.left p (by omega),h.left q c1];exact s _ _ h1 h2 (by omega)
 ·by_cases c2:q=i
  ·subst c2;rw[h.own,h.left p h2];exact lo p h1 h2
  ·rw[h.right q (by omega) (by omega)];by_cases c3:p<i
   ·rw[h.left p c3];by_cases c5:p=q-1
    ·rw[c5];exact Int.le_refl _
    ·exact s p (q-1) h1 (by omega) (by omega)
   ·by_cases c4:p=i
    ·subst c4;rw[h.own];exact Int.le_of_lt (hg _ (by omega) (by omega))
    ·rw[h.right p (by omega) (by omega)];exact s _ _ (by omega) (by omega) (by omega)
structure Fnd (κ:A→Int) (m c i j:Nat) (d:List A) (v:Int):Prop where
 hi:m≤i
 hij:i≤j
 hj:j≤c
 lo:∀ t,m≤t→t<i→ka κ d t<v
 up:∀ t,j≤t→t<c→v≤ka κ d t
theorem Fnd.less {m c i j h:Nat} {d:List A} {v:Int} (f:Fnd κ m c i j d v) (s:Srt κ m c d) (h1:i≤h) (h2:h<j) (hv:ka κ d h<v):Fnd κ m c (h+1) j d v :=
 ⟨by have:=f.hi;omega,by omega,f.hj,fun t t1 t2=>by
   by_cases e:t=h
   ·rw[e];exact hv
   ·have:=s t h t1 (by omega) (by have:=f.hj;omega);omega,f.up⟩
theorem Fnd.not {m c i j h:Nat} {d:List A} {v:Int} (f:Fnd κ m c i j d v) (s:Srt κ m c d) (h1:i≤h) (hv : ¬ ka κ d h<v):Fnd κ m c i h d v∨c≤h:=by
 by_cases hc:c≤h
 ·exact .inr hc
 ·refine .inl ⟨f.hi,h1,by omega,f.lo,fun t t1 t2 => ?_⟩;by_cases e:t=h
  ·rw[e];omega
  ·have:=s h t (by have:=f.hi;omega) (by omega) t2;omega
structure Fnu (κ:A→Int) (m c i j:Nat) (d:List A) (v:Int):Prop where
 hi:m≤i
 hij:i≤j
 hj:j≤c
 lo:∀ t,m≤t→t<i→ka κ d t≤v
 up:∀ t,j≤t→t<c→v<ka κ d t
theorem Fnu.not {m c i j h:Nat} {d:List A} {v:Int} (f:Fnu κ m c i j d v) (s:Srt κ m c d) (h1:i≤h) (h2:h<j) (hv : ¬ v<ka κ d h):Fnu κ m c (h+1) j d v :=
 ⟨by have:=f.hi;omega,by omega,f.hj,fun t t1 t2=>by
   by_cases e:t=h
   ·rw[e];omega
   ·have:=s t h t1 (by omega) (by have:=f.hj;omega);omega,f.up⟩
theorem Fnu.less {m c i j h:Nat} {d:List A} {v:Int} (f:Fnu κ m c i j d v) (s:Srt κ m c d) (h1:i≤h) (h2:h<j) (hv:v<ka κ d h):Fnu κ m c i h d v :=
 ⟨f.hi,h1,by have:=f.hj;omega,f.lo,fun t t1 t2=>by
   by_cases e:t=h
   ·rw[e];exact hv
   ·have:=s h t (by have:=f.hi;omega) (by omega) t2;omega⟩
structure Sym (κ:A→Int) (a m c mid s0 r0 start r:Nat) (d:List A):Prop where
 h0:s0≤start
 h1:start≤r
 h2:r≤r0
 lo:∀ t,s0≤t→t<start→ka κ d t≤ka κ d (mid+m-1-t)
 up:∀ t,r≤t→t<r0→ka κ d (mid+m-1-t)<ka κ d t
structure Rng (a m c mid s0 r0:Nat):Prop where
 r1:a≤s0
 r2:r0≤m
 r3:∀ t,s0≤t→t<r0→m≤mid+m-1-t∧mid+m-1-t<c
 r4:s0≤r0
 r5:s0=a∨mid+m=c+s0
 r6:r0=m∨r0=mid
 r7:r0≤mid
 r8:mid+m≤c+s0
theorem Sym.not {a m c mid s0 r0 start r x:Nat} {d:List A} (g:Rng a m c mid s0 r0) (f:Sym κ a m c mid s0 r0 start r d) (sa:Srt κ a m d) (sb:Srt κ m c d) (h1:start≤x) (h2:x<r) (hv : ¬ ka κ d (mid+m-1-x)<ka κ d x):Sym κ a m c mid s0 r0 (x+1) r d :=
 ⟨by have:=f.h0;omega,by omega,f.h2,fun t t1 t2=>by
   by_cases e:t=x
   ·rw[e];omega
   ·have b1:=f.h2;have b2:=g.r2;have b3:=g.r1;have b4:=(g.r3 x (by have:=f.h0;omega) (by omega)).1;have b5:=(g.r3 t t1 (by omega)).2;have:=sa t x (by omega) (by omega) (by omega);have:=sb (mid+m-1-x) (mid+m-1-t) b4 (by omega) b5;omega,f.up⟩
theorem Sym.less {a m c mid s0 r0 start r x:Nat} {d:List A} (g:Rng a m c mid s0 r0) (f:Sym κ a m c mid s0 r0 start r d) (sa:Srt κ a m d) (sb:Srt κ m c d) (h1:start≤x) (h2:x<r) (hv:ka κ d (mid+m-1-x)<ka κ d x):Sym κ a m c mid s0 r0 start x d :=
 ⟨f.h0,h1,by have:=f.h2;omega,f.lo,fun t t1 t2=>by
   by_cases e:t=x
   ·rw[e];exact hv
   ·have b1:=f.h2;have b0:=f.h0;have b2:=g.r2;have b3:=g.r1;have b4:=(g.r3 t (by omega) t2).1;have b5:=(g.r3 x (by omega) (by omega)).2;have:=sa x t (by omega) (by omega) (by omega);have:=sb (mid+m-1-t) (mid+m-1-x) b4 (by omega) b5;omega⟩
theorem Sym.found {a m c mid s0 r0 start:Nat} {d:List A} (g:Rng a m c mid s0 r0) (f:Sym κ a m c mid s0 r0 start start d) (sa:Srt κ a m d) (sb:Srt κ m c d) (hc:c≤d.length) :
 a≤start∧start≤m∧m≤mid+m-start∧mid+m-start≤c∧start≤mid∧Turned κ a start m mid (mid+m-start) c d (rot start m (mid+m-start) d):=by
 have b0:=f.h0;have b2:=f.h2;have q1:=g.r1;have q2:=g.r2;have q5:=g.r5;have q6:=g.r6;have q7:=g.r7;have q8:=g.r8;have a1:a≤start:=by omega
 have a2:start≤m:=by omega
 have a5:start≤mid:=by omega
 have a3:m≤mid+m-start:=by omega
 have a4:mid+m-start≤c:=by omega
 refine⟨a1,a2,a3,a4,a5,turned a1 a2 a3 a4 hc (by omega) a5 sa sb (fun h1 h2 => ?_) (fun h1 h2 => ?_)⟩
 ·have:=f.up start (Nat.le_refl _) (by omega);rw[show mid+m-start-1=mid+m-1-start by omega];exact this
 ·have:=f.lo (start-1) (by omega) (by omega);rw[show mid+m-start=mid+m-1-(start-1)by omega];exact this
theorem rng_left {a m c mid:Nat} (h1:a+1<m) (h2:m+1<c) (hm:mid=(a+c)/2) (h:mid<m):Rng a m c mid (mid+m-c) mid:=by
 constructor
 ·omega
 ·omega
 ·intro t t1 t2;omega
 ·omega
 ·right;omega
 ·right;rfl
 ·omega
 ·omega
theorem rng_right {a m c mid:Nat} (h1:a+1<m) (h2:m+1<c) (hm:mid=(a+c)/2) (h : ¬ mid<m):Rng a m c mid a m:=by
 constructor
 ·omega
 ·omega
 ·intro t t1 t2;omega
 ·omega
 ·left;rfl
 ·left;rfl
 ·omega
 ·omega
end
theorem half (i j:Nat):((i:Int)+(j:Int))/2=(((i+j)/2:Nat):Int):=by omega
theorem sym_left (b a m c:Nat) (d:List A) (cap:Nat) (w:World) (hr:Rw w b d) (hW:AWs d) (hd:d.length≤1000) (h1:m=a+1) (h2:m<c) (h3:c≤d.length) (sb:Srt kap m c d) :
 Calls prog 205 #[.slice (some ⟨b,0,none⟩) d.length cap,.int .i64 a,.int .i64 m,.int .i64 c,fvP] w fun e w'=>e=.returned (.tuple #[])∧∃ d',Rel kap a c d d'∧Srt kap a c d'∧Rw w' b d'∧Below b w w':=by
 have HR:Hid (Rw w b d):=hr;have HB:Hid (∀ x y w,Calls prog 111 #[tV x,tV y] w fun e w'=>e=.returned (.int .i64 (bpV x y))∧Below w.heap.size w w'):=byPlace_any;have HWs:Hid (AWs d):=hW;have HSb:Hid (Srt kap m c d):=sb;have HM:Hid (m=a+1):=h1;have hma:((m:Int)-(a:Int)==1)=true:=by simp;omega
 have hmc:(m:Int)<(c:Int):=by omega
 have ham:(a:Int)<(m:Int):=by omega
 have ham':a<m:=by omega
 clear hr hW sb h1;go_enter func205,ntmps205;go_wp2_with fail;go_loopw [10,11] (fun vi vj wr=>∃ (i j:Nat),vi=.int .i64 i∧vj=.int .i64 j∧Hid (Fnd kap m c i j d (ka kap d a))∧Hid (Rw wr b d)∧Below b w wr) (fun vi vj _=>(intOf vj).toNat-(intOf vi).toNat);case atStart=>exact⟨m,c,rfl,rfl,(show Fnd kap m c m c d (ka kap d a)from⟨Nat.le_refl _,by omega,Nat.le_refl _,fun t t1 t2=>by omega,fun t t1 t2=>by omega⟩),HR,Below.refl _ _⟩
 case round =>
  clear HR;obtain⟨i,j,rfl,rfl,HF,HK,hbel⟩:=hrel;obtain⟨f1,f2,f3,_,_⟩:=HF.out;by_cases hlt:i<j
  ·have hh:=half i j;have h4:i≤(i+j)/2:=by omega
   have h5:(i+j)/2<j:=by omega
   generalize (i+j)/2=H at *
   have hawj:=at_aw HWs.out (show H<d.length by omega);have hawp:=at_aw HWs.out (show a<d.length by omega);have hbp:=bpV_lt hawj hawp;have q1:=C3.grR HK.out (show H<d.length by omega);have q2:=C3.grR HK.out (show a<d.length by omega);have l1:H<d.length:=by omega
   have l2:a<d.length:=by omega
   have HKA:Hid (ka kap d H<ka kap d a↔bpV (at' d H) (at' d a)<0):=(show ka kap d H<ka kap d a↔bpV (at' d H) (at' d a)<0 from hbp.symm)
   clear hbp hawj hawp;generalize at' d H=X at *
   generalize at' d a=Y at *
   have q10:=fun n=>(q1 n).1;have q11:=fun n=>(q1 n).2.1;have q12:=fun n=>(q1 n).2.2;have q20:=fun n=>(q2 n).1;have q21:=fun n=>(q2 n).2.1;have q22:=fun n=>(q2 n).2.2;clear q1 q2;by_cases hv:bpV X Y<0
   ·have hvb:decide (bpV X Y<0)=true:=decide_eq_true hv;go_wp2_with fail;refine wp_region_grow (by kernel_rfl) (by kernel_rfl) ?_;repeat (go_big_quiet_step ((go_at_call 111;exact quiet_gr (HB.out _ _ _))))
    refine wpQuiet_nil ?_;rintro w1 hw';have g1:=gr_elim hw';clear q10 q11 q12 q20 q21 q22 hw';go_wp2_with fail;go_roundw;case rel=>exact⟨H+1,j,by go_num,rfl,(show Fnd kap m c (H+1) j d (ka kap d a)from HF.out.less HSb.out h4 h5 (HKA.out.2 hv)),(show Rw w1 b d from HK.out.below g1),btr' hbel (g1.mono (Nat.le_of_lt HK.out.lt))⟩
    case measure=>simp[intOf];omega
   ·have HVN:Hid (¬ bpV X Y<0):=hv;have hvb:decide (bpV X Y<0)=false:=decide_eq_false hv;clear hv;go_wp2_with fail;refine wp_region_grow (by kernel_rfl) (by kernel_rfl) ?_;repeat (go_big_quiet_step ((go_at_call 111;exact quiet_gr (HB.out _ _ _))))
    refine wpQuiet_nil ?_;rintro w1 hw';have g1:=gr_elim hw';clear q10 q11 q12 q20 q21 q22 hw';go_wp2_with fail;go_roundw;case rel =>
     have hf:Fnd kap m c i H d (ka kap d a):=by
      rcases HF.out.not HSb.out h4 (fun x=>by have h6:=HVN.out;have h7:=HKA.out.1 x;omega)with x|x
      ·exact x
      ·omega
     exact⟨i,H,rfl,rfl,hf,(show Rw w1 b d from HK.out.below g1),btr' hbel (g1.mono (Nat.le_of_lt HK.out.lt))⟩
    case measure=>simp[intOf];omega
  ·have hij:i=j:=by omega
   subst hij;have hai:a<i:=by have:=HM.out;omega
   have hw1:(i:Int)-1=((i-1:Nat):Int):=by omega
   obtain⟨I,hI⟩:∃ I,i-1=I:=⟨_,rfl⟩
   rw[hI]at hw1;have HI:Hid (i-1=I):=hI;have haI:a≤I:=by omega
   have hIc:I<c:=by omega
   clear hI;have HM0:Hid (MvR kap a c a d d):=(show MvR kap a c a d d from MvR.start a c d)
   go_wp2_with fail;go_loopw [13] (fun vk wr=>∃ (k:Nat) (dk:List A),vk=.int .i64 k∧a≤k∧k≤I∧Hid (MvR kap a c k d dk)∧Hid (Rw wr b dk)∧Below b w wr) (fun vk _=>I-(intOf vk).toNat);case atStart=>exact⟨a,d,rfl,Nat.le_refl _,haI,HM0,HK,hbel⟩
   case round =>
    clear HK hbel HM0;obtain⟨k,dk,rfl,hak,hkI,HV,HK,hbel⟩:=hrel;have hlen:dk.length=d.length:=HV.out.rel.len;by_cases hkl:k<I
    ·have c1:=HK.out.cells k (by omega);have c2:=HK.out.cells (k+1) (by omega);have hfz:=HK.out.mark;have HNX:Hid (Rw (put3 (put3 wr b (k*3) (at' dk (k+1))) b ((k+1)*3) (at' dk k)) b (swp dk k (k+1))):=(show Rw _ b _ from HK.out.swap (by omega) (by omega) (by omega))
     obtain⟨P,hP⟩:∃ P,k+1=P:=⟨_,rfl⟩
     have eP:(k:Int)+1=(P:Int):=by omega
     have HP:Hid (k+1=P):=hP;rw[hP]at HNX c2;have lk:k<d.length:=by omega
     have lP:P<d.length:=by omega
     have hkP:k<P:=by omega
     have hPI:P≤I:=by omega
     clear hP;generalize at' dk k=X at *
     generalize at' dk P=Y at *
     obtain⟨c10,c11,c12⟩:=c1;obtain⟨c20,c21,c22⟩:=c2;go_wp2_with fail;go_big_region
     have hb2:Below b w (put3 (put3 wr b (k*3) Y) b (P*3) X).drew:=(put3_below X (put3_below Y hbel (Nat.le_refl _)) (Nat.le_refl _)).drew;have HN2:Hid (Rw (put3 (put3 wr b (k*3) Y) b (P*3) X).drew b (swp dk k P)):=(show Rw _ b _ by have:=HNX.out.drewN 1;rw[← HP.out]at this ⊢;exact this)
     clear c10 c11 c12 c20 c21 c22 hfz HNX HK hbel;generalize (put3 (put3 wr b (k*3) Y) b (P*3) X).drew=w2 at *
     go_wp2_with fail;go_roundw;case rel =>
      have hp:=HP.out;subst hp;exact⟨k+1,swp dk k (k+1),by first|rfl|go_num,by omega,by omega,(show MvR kap a c (k+1) d _ from HV.out.step hak (by have:=HI.out;omega) h3 (HF.out.lo _ (by have:=HM.out;omega) (by have:=HI.out;omega))),HN2,hb2⟩
     case measure=>simp[intOf];omega
    ·have hkI':k=I:=by omega
     subst hkI';go_wp2_with fail;(try simp only[Exit.inBlock,Exit.then]);refine bodyPost_ret (results_none rfl _ _ _) rfl ?_
     have hm:=HM.out;have hi:=HI.out;subst hm;refine⟨rfl,dk,HV.out.rel,?_,HK.out,hbel⟩;subst hi;exact HV.out.done hai f3 HSb.out HF.out.lo HF.out.up
theorem sym_right (b a m c:Nat) (d:List A) (cap:Nat) (w:World) (hr:Rw w b d) (hW:AWs d) (hd:d.length≤1000) (h1:a+1<m) (h2:c=m+1) (h3:c≤d.length) (sa:Srt kap a m d) :
 Calls prog 205 #[.slice (some ⟨b,0,none⟩) d.length cap,.int .i64 a,.int .i64 m,.int .i64 c,fvP] w fun e w'=>e=.returned (.tuple #[])∧∃ d',Rel kap a c d d'∧Srt kap a c d'∧Rw w' b d'∧Below b w w':=by
 have HR:Hid (Rw w b d):=hr;have HB:Hid (∀ x y w,Calls prog 111 #[tV x,tV y] w fun e w'=>e=.returned (.int .i64 (bpV x y))∧Below w.heap.size w w'):=byPlace_any;have HWs:Hid (AWs d):=hW;have HSa:Hid (Srt kap a m d):=sa;have HM:Hid (c=m+1):=h2;have hma:((m:Int)-(a:Int)==1)=false:=by simp;omega
 have hcm:((c:Int)-(m:Int)==1)=true:=by simp;omega
 have hmc:(m:Int)<(c:Int):=by omega
 have hmc':m<c:=by omega
 have ham:(a:Int)<(m:Int):=by omega
 clear hr hW sa h2;go_enter func205,ntmps205;go_wp2_with fail;go_loopw [14,15] (fun vi vj wr=>∃ (i j:Nat),vi=.int .i64 i∧vj=.int .i64 j∧Hid (Fnu kap a m i j d (ka kap d m))∧Hid (Rw wr b d)∧Below b w wr) (fun vi vj _=>(intOf vj).toNat-(intOf vi).toNat);case atStart=>exact⟨a,m,rfl,rfl,(show Fnu kap a m a m d (ka kap d m)from⟨Nat.le_refl _,by omega,Nat.le_refl _,fun t t1 t2=>by omega,fun t t1 t2=>by omega⟩),HR,Below.refl _ _⟩
 case round =>
  clear HR;obtain⟨i,j,rfl,rfl,HF,HK,hbel⟩:=hrel;obtain⟨f1,f2,f3,_,_⟩:=HF.out;by_cases hlt:i<j
  ·have hh:=half i j;have h4:i≤(i+j)/2:=by omega
   have h5:(i+j)/2<j:=by omega
   generalize (i+j)/2=H at *
   have hawj:=at_aw HWs.out (show m<d.length by omega);have hawp:=at_aw HWs.out (show H<d.length by omega);have hbp:=bpV_lt hawj hawp;have q1:=C3.grR HK.out (show m<d.length by omega);have q2:=C3.grR HK.out (show H<d.length by omega);have l1:m<d.length:=by omega
   have l2:H<d.length:=by omega
   have HKA:Hid (ka kap d m<ka kap d H↔bpV (at' d m) (at' d H)<0):=(show ka kap d m<ka kap d H↔bpV (at' d m) (at' d H)<0 from hbp.symm)
   clear hbp hawj hawp;generalize at' d m=X at *
   generalize at' d H=Y at *
   have q10:=fun n=>(q1 n).1;have q11:=fun n=>(q1 n).2.1;have q12:=fun n=>(q1 n).2.2;have q20:=fun n=>(q2 n).1;have q21:=fun n=>(q2 n).2.1;have q22:=fun n=>(q2 n).2.2;clear q1 q2;by_cases hv:bpV X Y<0
   ·have hvb:decide (bpV X Y<0)=true:=decide_eq_true hv;go_wp2_with fail;refine wp_region_grow (by kernel_rfl) (by kernel_rfl) ?_;repeat (go_big_quiet_step ((go_at_call 111;exact quiet_gr (HB.out _ _ _))))
    refine wpQuiet_nil ?_;rintro w1 hw';have g1:=gr_elim hw';clear q10 q11 q12 q20 q21 q22 hw';go_wp2_with fail;go_roundw;case rel=>exact⟨i,H,rfl,rfl,(show Fnu kap a m i H d (ka kap d m)from HF.out.less HSa.out h4 h5 (HKA.out.2 hv)),(show Rw w1 b d from HK.out.below g1),btr' hbel (g1.mono (Nat.le_of_lt HK.out.lt))⟩
    case measure=>simp[intOf];omega
   ·have HVN:Hid (¬ bpV X Y<0):=hv;have hvb:decide (bpV X Y<0)=false:=decide_eq_false hv;clear hv;go_wp2_with fail;refine wp_region_grow (by kernel_rfl) (by kernel_rfl) ?_;repeat (go_big_quiet_step ((go_at_call 111;exact quiet_gr (HB.out _ _ _))))
    refine wpQuiet_nil ?_;rintro w1 hw';have g1:=gr_elim hw';clear q10 q11 q12 q20 q21 q22 hw';go_wp2_with fail;go_roundw;case rel=>exact⟨H+1,j,by go_num,rfl,(show Fnu kap a m (H+1) j d (ka kap d m)from HF.out.not HSa.out h4 h5 (fun x=>by have h6:=HVN.out;have h7:=HKA.out.1 x;omega)),(show Rw w1 b d from HK.out.below g1),btr' hbel (g1.mono (Nat.le_of_lt HK.out.lt))⟩
    case measure=>simp[intOf];omega
  ·have hij:i=j:=by omega
   subst hij;have HM0:Hid (MvL kap a m m d d):=(show MvL kap a m m d d from MvL.start a m d)
   go_wp2_with fail;go_loopw [17] (fun vk wr=>∃ (k:Nat) (dk:List A),vk=.int .i64 k∧i≤k∧k≤m∧Hid (MvL kap a m k d dk)∧Hid (Rw wr b dk)∧Below b w wr) (fun vk _=>(intOf vk).toNat);case atStart=>exact⟨m,d,rfl,f3,Nat.le_refl _,HM0,HK,hbel⟩
   case round =>
    clear HK hbel HM0;obtain⟨k,dk,rfl,hik,hkm,HV,HK,hbel⟩:=hrel;have hlen:dk.length=d.length:=HV.out.rel.len;by_cases hkl:i<k
    ·obtain⟨P,hP⟩:∃ P,k=P+1:=⟨k-1,by omega⟩
     have c1:=HK.out.cells k (by omega);have c2:=HK.out.cells P (by omega);have hfz:=HK.out.mark;have HNX:Hid (Rw (put3 (put3 wr b (k*3) (at' dk P)) b (P*3) (at' dk k)) b (swp dk k P)):=(show Rw _ b _ from HK.out.swap (by omega) (by omega) (by omega))
     have eP:(k:Int)-1=(P:Int):=by omega
     have HP:Hid (k=P+1):=hP;have lk:k<d.length:=by omega
     have lP:P<d.length:=by omega
     have hPk:P<k:=by omega
     have hiP:i≤P:=by omega
     clear hP;generalize at' dk k=X at *
     generalize at' dk P=Y at *
     obtain⟨c10,c11,c12⟩:=c1;obtain⟨c20,c21,c22⟩:=c2;go_wp2_with fail;go_big_region
     have hb2:Below b w (put3 (put3 wr b (k*3) Y) b (P*3) X).drew:=(put3_below X (put3_below Y hbel (Nat.le_refl _)) (Nat.le_refl _)).drew;have HN2:Hid (Rw (put3 (put3 wr b (k*3) Y) b (P*3) X).drew b (swp dk k P)):=(show Rw _ b _ from HNX.out.drewN 1)
     clear c10 c11 c12 c20 c21 c22 hfz HNX HK hbel;generalize (put3 (put3 wr b (k*3) Y) b (P*3) X).drew=w2 at *
     go_wp2_with fail;go_roundw;case rel =>
      have hp:=HP.out;subst hp;exact⟨P,swp dk (P+1) P,by first|rfl|go_num,hiP,by omega,(show MvL kap a m P d _ from HV.out.step (by omega) hkm (by omega) (HF.out.up _ hiP (by omega))),HN2,hb2⟩
     case measure=>simp[intOf];omega
    ·have hkI':k=i:=by omega
     subst hkI';go_wp2_with fail;(try simp only[Exit.inBlock,Exit.then]);refine bodyPost_ret (results_none rfl _ _ _) rfl ?_
     have hm:=HM.out;subst hm;exact⟨rfl,dk,HV.out.rel,HV.out.done f1 f3 HSa.out HF.out.lo HF.out.up,HK.out,hbel⟩
end Sr
end Go.Proofs.YtgnihbdcdefdgaaGreatDoor

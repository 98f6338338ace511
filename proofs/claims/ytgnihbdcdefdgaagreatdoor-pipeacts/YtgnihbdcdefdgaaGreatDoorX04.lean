import Derived.Test.YtgnihbdcdefdgaaGreatDoorX03
import Derived.WalkKit
import Derived.Test.YtgnihbdcdefdgaaGreatDoorX01
set_option maxHeartbeats 8000000
open Go.ChangeShapes Go.WideShapes Go.ChangeAt Go.RowKit
open Go.Proofs.Tryz
namespace Go.Proofs.YtgnihbdcdefdgaaGreatDoor
namespace Fd
open Mt
def chE (s:Sn) (a:A):Int:=if a.1=3 then pushE s 0 else if a.1=4 then popE s else if a.1=5 then putE s a.2.1 a.2.2 else 0
def chS (s:Sn) (a:A):Sn:=if a.1=3 then pushS s 0 else if a.1=4 then popS s else if a.1=5 then putS s a.2.1 a.2.2 else s
def changeV (s:Sn) (a:A):Sn:=if chE s a=0 then chS s a else s
abbrev three (w:World) (s:Sn) (a:A):World:=((bx w s).alloc (.cells (tC a) 95)).alloc (.cells (snC sn0) 49)
theorem Bx.three (w:World) (s:Sn) (a:A):Bx (three w s a) w.heap.size s:=by
 have h:=(Bx.new w s).below (B:=(bx w s).heap.size) (by simp) ((Below.refl _ _).alloc (Nat.le_refl _) (.cells (tC a) 95));exact h.below (B:=((bx w s).alloc (.cells (tC a) 95)).heap.size) (by simp;omega) ((Below.refl _ _).alloc (Nat.le_refl _) _)
theorem Bw.three (w:World) (s:Sn) (a:A):Bw (three w s a) (w.heap.size+2) sn0:=by
 have h:=Bw.new ((bx w s).alloc (.cells (tC a) 95)) sn0;have e:((bx w s).alloc (.cells (tC a) 95)).heap.size=w.heap.size+2:=by simp
 rw[e]at h;exact h
theorem Bx.third (w:World) (s:Sn) (a:A):Bx (((bx w s).alloc (.cells (tC a) 95)).alloc (.cells (snC s) 49)) (w.heap.size+2) s:=by
 have h:=Bx.new ((bx w s).alloc (.cells (tC a) 95)) s;have e:((bx w s).alloc (.cells (tC a) 95)).heap.size=w.heap.size+2:=by simp
 rw[e]at h;exact h
theorem change_call (k f v:Int) (s t:Sn) (e:Int) (w:World) (hk:k=3∨k=4∨k=5)
 (H3:Hid (k=3→∀ w,Calls prog 167 #[snV s,.int .u64 0] w fun x w'=>x=.returned (.tuple #[snV t,.int .i64 e])∧Below w.heap.size w w'))
 (H4:Hid (k=4→∀ w,Calls prog 168 #[snV s] w fun x w'=>x=.returned (.tuple #[snV t,.int .i64 e])∧Below w.heap.size w w'))
 (H5:Hid (k=5→∀ w,Calls prog 169 #[snV s,.int .i64 f,.int .u64 v] w fun x w'=>x=.returned (.tuple #[snV t,.int .i64 e])∧Below w.heap.size w w')) :
 Calls prog 125 #[snV s,tV (k,f,v)] w fun x w'=>x=.returned (.tuple #[snV t,.int .i64 e])∧Below w.heap.size w w':=by
 rcases hk with rfl|rfl|rfl
 ·have H:=H3.out rfl;have HH:Hid (∀ w,Calls prog 167 #[snV s,.int .u64 0] w fun x w'=>x=.returned (.tuple #[snV t,.int .i64 e])∧Below w.heap.size w w'):=H;clear H H3 H4 H5;go_enter func125,ntmps125;go_wp2_with fail;refine(HH.out _).mono ?_;rintro x w1 ⟨rfl,g1⟩;have D1:=(Bw.three w s (3,f,v)).below (by simp) g1;have G1:Below w.heap.size w w1:=btr (by go_grown) g1 (by first|(simp;done)|(simp;omega));have L1:w.heap.size+3≤w1.heap.size:=by have:=g1.size;simp at this;omega
  clear g1;have D2:=D1;obtain⟨⟨c0,c1,c2,c3,c4,c5,c6,c7,c8,c9,c10,c11,c12⟩,cf⟩:=D1;go_wp2_with fail;refine bodyPost_ret (res27e (b:=w.heap.size+2) (s:=t) rfl rfl (D2.setAll t).1) rfl ?_;exact⟨rfl,below_setAll t G1 (by omega)⟩
 ·have H:=H4.out rfl;have HH:Hid (∀ w,Calls prog 168 #[snV s] w fun x w'=>x=.returned (.tuple #[snV t,.int .i64 e])∧Below w.heap.size w w'):=H;clear H H3 H4 H5;go_enter func125,ntmps125;go_wp2_with fail;refine(HH.out _).mono ?_;rintro x w1 ⟨rfl,g1⟩;have D1:=(Bw.three w s (4,f,v)).below (by simp) g1;have G1:Below w.heap.size w w1:=btr (by go_grown) g1 (by first|(simp;done)|(simp;omega));have L1:w.heap.size+3≤w1.heap.size:=by have:=g1.size;simp at this;omega
  clear g1;have D2:=D1;obtain⟨⟨c0,c1,c2,c3,c4,c5,c6,c7,c8,c9,c10,c11,c12⟩,cf⟩:=D1;go_wp2_with fail;refine bodyPost_ret (res27e (b:=w.heap.size+2) (s:=t) rfl rfl (D2.setAll t).1) rfl ?_;exact⟨rfl,below_setAll t G1 (by omega)⟩
 ·have H:=H5.out rfl;have HH:Hid (∀ w,Calls prog 169 #[snV s,.int .i64 f,.int .u64 v] w fun x w'=>x=.returned (.tuple #[snV t,.int .i64 e])∧Below w.heap.size w w'):=H;clear H H3 H4 H5;go_enter func125,ntmps125;go_wp2_with fail;refine(HH.out _).mono ?_;rintro x w1 ⟨rfl,g1⟩;have D1:=(Bw.three w s (5,f,v)).below (by simp) g1;have G1:Below w.heap.size w w1:=btr (by go_grown) g1 (by first|(simp;done)|(simp;omega));have L1:w.heap.size+3≤w1.heap.size:=by have:=g1.size;simp at this;omega
  clear g1;have D2:=D1;obtain⟨⟨c0,c1,c2,c3,c4,c5,c6,c7,c8,c9,c10,c11,c12⟩,cf⟩:=D1;go_wp2_with fail;refine bodyPost_ret (res27e (b:=w.heap.size+2) (s:=t) rfl rfl (D2.setAll t).1) rfl ?_;exact⟨rfl,below_setAll t G1 (by omega)⟩
theorem change_none (k f v:Int) (s:Sn) (w:World) (b3:(k==3)=false) (b4:(k==4)=false) (b5:(k==5)=false) :
 Calls prog 125 #[snV s,tV (k,f,v)] w fun x w'=>x=.returned (.tuple #[snV s,.int .i64 0])∧Below w.heap.size w w':=by
 go_enter func125,ntmps125;go_wp2;refine bodyPost_ret (res27e (b:=w.heap.size+2) (s:=s) rfl rfl (Bx.third w s (k,f,v))) rfl ?_;exact⟨rfl,by go_grown⟩
theorem change_any (s:Sn) (a:A) (w:World) (hw:AW a):Calls prog 125 #[snV s,tV a] w fun x w'=>x=.returned (.tuple #[snV (chS s a),.int .i64 (chE s a)])∧Below w.heap.size w w':=by
 obtain⟨k,f,v⟩:=a;by_cases h3:k=3
 ·subst h3;exact change_call 3 f v s (pushS s 0) (pushE s 0) w (.inl rfl) (show _→_ from fun _ w=>push_any s 0 w (Int.le_refl _)) (show _→_ from fun h=>absurd h (by decide)) (show _→_ from fun h=>absurd h (by decide))
 ·by_cases h4:k=4
  ·subst h4;exact change_call 4 f v s (popS s) (popE s) w (.inr (.inl rfl)) (show _→_ from fun h=>absurd h (by decide)) (show _→_ from fun _ w=>pop_any s w) (show _→_ from fun h=>absurd h (by decide))
  ·by_cases h5:k=5
   ·subst h5;exact change_call 5 f v s (putS s f v) (putE s f v) w (.inr (.inr rfl)) (show _→_ from fun h=>absurd h (by decide)) (show _→_ from fun h=>absurd h (by decide)) (show _→_ from fun _ w=>fput_any s f v w hw.v0)
   ·have e1:chS s (k,f,v)=s:=by simp[chS,h3,h4,h5]
    have e2:chE s (k,f,v)=0:=by simp[chE,h3,h4,h5]
    rw[e1,e2];exact change_none k f v s w (by simp[h3]) (by simp[h4]) (by simp[h5])
theorem change_bad (s t:Sn) (a:A) (e:Int) (w:World) (he:(e != 0)=true) (HC:Hid (∀ w,Calls prog 125 #[snV s,tV a] w fun x w'=>x=.returned (.tuple #[snV t,.int .i64 e])∧Below w.heap.size w w')) :
 Calls prog 84 #[snV s,tV a] w fun x w'=>x=.returned (snV s)∧Below w.heap.size w w':=by
 go_enter func84,ntmps84;go_wp2_with fail;refine(HC.out _).mono ?_;rintro x w1 ⟨rfl,g1⟩;have A0:=(Bx.three w s a).below (by simp;omega) g1;have D0:=(Bw.three w s a).below (by simp) g1;have G1:Below w.heap.size w w1:=btr (by go_grown) g1 (by first|(simp;done)|(simp;omega));have L1:w.heap.size+3≤w1.heap.size:=by have:=g1.size;simp at this;omega
 have A1:=A0.below (B:=w1.heap.size) (by omega) ((Below.refl _ _).alloc (Nat.le_refl _) (.cells (snC t) 49));have D1:=D0.below (B:=w1.heap.size) (by omega) ((Below.refl _ _).alloc (Nat.le_refl _) (.cells (snC t) 49));clear g1;have D2:=D1;obtain⟨⟨c0,c1,c2,c3,c4,c5,c6,c7,c8,c9,c10,c11,c12⟩,cf⟩:=D0;obtain⟨a0,a1,a2,a3,a4,a5,a6,a7,a8,a9,a10,a11,a12⟩:=A0;go_wp2_with fail;refine bodyPost_ret (res27 (b:=w.heap.size+2) (s:=s) rfl rfl (D2.setAll s).1) rfl ?_;exact⟨rfl,below_setAll s (G1.alloc G1.size _) (by omega)⟩
theorem change_good (s t:Sn) (a:A) (w:World) (HC:Hid (∀ w,Calls prog 125 #[snV s,tV a] w fun x w'=>x=.returned (.tuple #[snV t,.int .i64 0])∧Below w.heap.size w w')) :
 Calls prog 84 #[snV s,tV a] w fun x w'=>x=.returned (snV t)∧Below w.heap.size w w':=by
 go_enter func84,ntmps84;go_wp2_with fail;refine(HC.out _).mono ?_;rintro x w1 ⟨rfl,g1⟩;have D0:=(Bw.three w s a).below (by simp) g1;have G1:Below w.heap.size w w1:=btr (by go_grown) g1 (by first|(simp;done)|(simp;omega));have L1:w.heap.size+3≤w1.heap.size:=by have:=g1.size;simp at this;omega
 have D1:=D0.below (B:=w1.heap.size) (by omega) ((Below.refl _ _).alloc (Nat.le_refl _) (.cells (snC t) 49));clear g1;have D2:=D1;obtain⟨⟨c0,c1,c2,c3,c4,c5,c6,c7,c8,c9,c10,c11,c12⟩,cf⟩:=D0;go_wp2_with fail;refine bodyPost_ret (res27 (b:=w.heap.size+2) (s:=t) rfl rfl (D2.setAll t).1) rfl ?_;exact⟨rfl,below_setAll t (G1.alloc G1.size _) (by omega)⟩
theorem chg_any (s:Sn) (a:A) (w:World) (hw:AW a):Calls prog 84 #[snV s,tV a] w fun x w'=>x=.returned (snV (changeV s a))∧Below w.heap.size w w':=by
 unfold changeV;by_cases h:chE s a=0
 ·rw[if_pos h];exact change_good s (chS s a) a w (show ∀ w,_ from fun w=>by have:=change_any s a w hw;rw[h]at this;exact this)
 ·rw[if_neg h];exact change_bad s (chS s a) a (chE s a) w (by simpa using h) (show ∀ w,_ from fun w=>change_any s a w hw)
end Fd
namespace Sr
section
variable (κ:A→Int)
abbrev fc (c:Int) (l:List A):List A:=l.filter fun x=>decide (κ x=c)
def Cl (d d':List A):Prop:=∀ c,fc κ c d'=fc κ c d
def at' (d:List A) (i:Nat):A:=d.getD i default
def ka (d:List A) (i:Nat):Int:=κ (at' d i)
def Srt (a b:Nat) (d:List A):Prop:=∀ i j,a≤i→i<j→j<b→ka κ d i≤ka κ d j
structure Rel (a b:Nat) (d d':List A):Prop where
 len:d'.length=d.length
 out:∀ i,i<a∨b≤i→at' d' i=at' d i
 cl:Cl κ d d'
def swp (d:List A) (i j:Nat):List A:=(d.set i (at' d j)).set j (at' d i)
variable {κ}
theorem Cl.refl (d:List A):Cl κ d d:=fun _=>rfl
theorem Cl.trans {d e f:List A} (h:Cl κ d e) (g:Cl κ e f):Cl κ d f:=fun c=>(g c).trans (h c)
theorem Rel.refl (a b:Nat) (d:List A):Rel κ a b d d:=⟨rfl,fun _ _=>rfl,Cl.refl d⟩
theorem Rel.trans {a b:Nat} {d e f:List A} (h:Rel κ a b d e) (g:Rel κ a b e f):Rel κ a b d f:=⟨g.len.trans h.len,fun i hi=>(g.out i hi).trans (h.out i hi),h.cl.trans g.cl⟩
theorem Rel.mono {a b a' b':Nat} {d e:List A} (h:Rel κ a b d e) (ha:a'≤a) (hb:b≤b'):Rel κ a' b' d e:=⟨h.len,fun i hi=>h.out i (by omega),h.cl⟩
theorem Rel.ka {a b:Nat} {d e:List A} (h:Rel κ a b d e) (i:Nat) (hi:i<a∨b≤i):ka κ e i=ka κ d i:=by unfold Go.Proofs.YtgnihbdcdefdgaaGreatDoor.Sr.ka;rw[h.out i hi]
theorem at_get (d:List A) (i:Nat) (h:i<d.length):at' d i=d[i]:=by unfold at';simp[List.getD_eq_getElem?_getD,h]
theorem at_set (l:List A) (i j:Nat) (x:A) (hi:i<l.length):at' (l.set i x) j=if i=j then x else at' l j:=by
 unfold at';simp only[List.getD_eq_getElem?_getD,List.getElem?_set];split<;>simp_all
theorem swp_len (d:List A) (i j:Nat):(swp d i j).length=d.length:=by simp[swp]
theorem swp_at (d:List A) (i j t:Nat) (hi:i<d.length) (hj:j<d.length):at' (swp d i j) t=if j=t then at' d i else if i=t then at' d j else at' d t:=by
 unfold swp;rw[at_set _ _ _ _ (by simpa using hj),at_set _ _ _ _ hi]
theorem list_at {d:List A} {i:Nat} (h:i<d.length):d=d.take i++at' d i::d.drop (i+1):=by
 rw[at_get d i h,← List.drop_eq_getElem_cons h,List.take_append_drop]
theorem swp_parts (x q y:List A) (e f:A):swp (x++e::(q++f::y)) x.length (x.length+1+q.length)=x++f::(q++e::y):=by
 have h1:at' (x++e::(q++f::y)) x.length=e:=by unfold at';simp[List.getD_eq_getElem?_getD]
 have h2:at' (x++e::(q++f::y)) (x.length+1+q.length)=f:=by
  unfold at';rw[List.getD_eq_getElem?_getD,List.getElem?_append_right (by omega),show x.length+1+q.length-x.length=q.length+1 by omega];simp
 unfold swp;rw[h1,h2];rw[List.set_append_right _ _ (by omega),Nat.sub_self,List.set_cons_zero];rw[List.set_append_right _ _ (by omega),show x.length+1+q.length-x.length=q.length+1 by omega,List.set_cons_succ];rw[List.set_append_right _ _ (by omega),Nat.sub_self,List.set_cons_zero]
theorem cl_two (x y:List A) (e f:A) (h:κ e≠κ f):Cl κ (x++e::f::y) (x++f::e::y):=by
 intro c;simp only[fc,List.filter_append,List.filter_cons];by_cases h1:κ e=c<;>by_cases h2:κ f=c
 ·exact absurd (h1.trans h2.symm) h
 all_goals simp[h1,h2]
theorem rel_swap (d:List A) (i:Nat) (h:i+1<d.length) (hk:ka κ d i≠ka κ d (i+1)) (a b:Nat) (ha:a≤i) (hb:i+2≤b):Rel κ a b d (swp d (i+1) i)∧swp d (i+1) i=swp d i (i+1):=by
 have e1:=list_at (d:=d) (i:=i) (by omega);have e2:d.drop (i+1)=at' d (i+1)::d.drop (i+2):=by rw[at_get d (i+1) h,← List.drop_eq_getElem_cons h]
 have hs:swp d (i+1) i=swp d i (i+1):=by
  apply List.ext_getElem (by rw[swp_len,swp_len]);intro t h1 h2;have:=swp_at d (i+1) i t (by omega) (by omega);have g:=swp_at d i (i+1) t (by omega) (by omega);rw[at_get _ _ h1]at this;rw[at_get _ _ h2]at g;rw[this,g];by_cases q:i=t
  ·subst q;simp
  ·by_cases r:i+1=t<;>simp[q,r]
 refine⟨⟨swp_len _ _ _,fun t ht => ?_,?_⟩,hs⟩
 ·rw[swp_at d (i+1) i t (by omega) (by omega),if_neg (by omega),if_neg (by omega)]
 ·rw[hs];have hl:(d.take i).length=i:=by rw[List.length_take];omega
  have e3:swp d i (i+1)=d.take i++at' d (i+1)::at' d i::d.drop (i+2):=by
   have:=swp_parts (d.take i) [] (d.drop (i+2)) (at' d i) (at' d (i+1));simp only[List.nil_append,List.length_nil,Nat.add_zero]at this;rw[hl]at this;rw[← this];congr 1;rw[← e2];exact e1
  rw[e3];have e4:d=d.take i++at' d i::at' d (i+1)::d.drop (i+2):=by rw[← e2];exact e1
  intro c;conv=>rhs;rw[e4]
  exact cl_two (κ:=κ) (d.take i) (d.drop (i+2)) (at' d i) (at' d (i+1)) hk c
theorem ka_swap (d:List A) (i t:Nat) (h:i+1<d.length):ka κ (swp d (i+1) i) t=if i=t then ka κ d (i+1) else if i+1=t then ka κ d i else ka κ d t:=by
 unfold ka;rw[swp_at d (i+1) i t (by omega) (by omega)];by_cases h1:i=t
 ·rw[if_pos h1,if_pos h1]
 ·rw[if_neg h1,if_neg h1];by_cases h2:i+1=t
  ·rw[if_pos h2,if_pos h2]
  ·rw[if_neg h2,if_neg h2]
structure Ins (a i j:Nat) (d:List A):Prop where
 le:∀ p q,a≤p→p<q→q≤i→p≠j→q≠j→ka κ d p≤ka κ d q
 lt:∀ q,j<q→q≤i→ka κ d j<ka κ d q
theorem Ins.start {a i:Nat} {d:List A} (h:Srt κ a i d):Ins (κ:=κ) a i i d:=⟨fun p q h1 h2 h3 h4 h5=>h p q h1 h2 (by omega),fun q h1 h2=>by omega⟩
theorem Ins.stop {a i j:Nat} {d:List A} (h:Ins (κ:=κ) a i j d) (hj:j≤i) (hs:j≤a∨ka κ d (j-1)≤ka κ d j):Srt κ a (i+1) d:=by
 intro p q h1 h2 h3;by_cases e:p=j
 ·subst e;exact Int.le_of_lt (h.lt q h2 (by omega))
 ·by_cases f:q=j
  ·subst f;rcases hs with hs|hs
   ·omega
   ·by_cases g:p=q-1
    ·subst g;exact hs
    ·exact Int.le_trans (h.le p (q-1) h1 (by omega) (by omega) e (by omega)) hs
  ·exact h.le p q h1 h2 (by omega) e f
theorem Ins.step {a i j:Nat} {d:List A} (h:Ins (κ:=κ) a i (j+1) d) (ha:a≤j) (hj:j+1≤i) (hi:i<d.length) (hs:ka κ d (j+1)<ka κ d j):Ins (κ:=κ) a i j (swp d (j+1) j):=by
 constructor
 ·intro p q h1 h2 h3 h4 h5;rw[ka_swap d j p (by omega),ka_swap d j q (by omega)];rw[if_neg (Ne.symm h4),if_neg (Ne.symm h5)];by_cases e:j+1=p
  ·rw[if_pos e,if_neg (by omega)];exact h.le j q (by omega) (by omega) h3 (by omega) (by omega)
  ·rw[if_neg e];by_cases f:j+1=q
   ·rw[if_pos f];exact h.le p j h1 (by omega) (by omega) (by omega) (by omega)
   ·rw[if_neg f];exact h.le p q h1 h2 h3 (Ne.symm e) (Ne.symm f)
 ·intro q h1 h2;rw[ka_swap d j j (by omega),ka_swap d j q (by omega),if_pos rfl,if_neg (by omega)];by_cases f:j+1=q
  ·rw[if_pos f];exact hs
  ·rw[if_neg f];exact h.lt q (by omega) h2
theorem Srt.one (a b:Nat) (d:List A) (h:b≤a+1):Srt κ a b d:=fun i j h1 h2 h3=>by omega
end
section
variable {κ:A→Int}
theorem at_append (x y:List A) (i:Nat):at' (x++y) i=if i<x.length then at' x i else at' y (i-x.length):=by
 unfold at';simp only[List.getD_eq_getElem?_getD,List.getElem?_append];split<;>rfl
theorem at_take (d:List A) (e i:Nat) (h:i<e):at' (d.take e) i=at' d i:=by
 unfold at';simp only[List.getD_eq_getElem?_getD,List.getElem?_take,if_pos h]
theorem at_drop (d:List A) (m i:Nat):at' (d.drop m) i=at' d (m+i):=by
 unfold at';simp only[List.getD_eq_getElem?_getD,List.getElem?_drop]
def rot (s m e:Nat) (d:List A):List A:=d.take s++((d.take e).drop m++((d.take m).drop s++d.drop e))
theorem rot_parts (s m e:Nat) (d:List A) (h1:s≤m) (h2:m≤e):d=d.take s++((d.take m).drop s++((d.take e).drop m++d.drop e)):=by
 have a1:(d.take m).take s=d.take s:=by rw[List.take_take,Nat.min_eq_left h1]
 have a2:(d.take e).take m=d.take m:=by rw[List.take_take,Nat.min_eq_left h2]
 have b1:d.take s++(d.take m).drop s=d.take m:=by rw[← a1];exact List.take_append_drop _ _
 have b2:d.take m++(d.take e).drop m=d.take e:=by rw[← a2];exact List.take_append_drop _ _
 rw[← List.append_assoc,← List.append_assoc,b1,b2,List.take_append_drop]
theorem rot_len (s m e:Nat) (d:List A) (h1:s≤m) (h2:m≤e) (h3:e≤d.length):(rot s m e d).length=d.length:=by
 unfold rot;simp only[List.length_append,List.length_take,List.length_drop];omega
theorem rot_at (s m e:Nat) (d:List A) (h1:s≤m) (h2:m≤e) (h3:e≤d.length) (t:Nat) :
 at' (rot s m e d) t=if t<s then at' d t else if t<s+(e-m) then at' d (t+(m-s)) else if t<e then at' d (t-(e-m)) else at' d t:=by
 unfold rot;have l1:(d.take s).length=s:=by rw[List.length_take];omega
 have l2:((d.take e).drop m).length=e-m:=by rw[List.length_drop,List.length_take];omega
 have l3:((d.take m).drop s).length=m-s:=by rw[List.length_drop,List.length_take];omega
 rw[at_append,at_append,at_append,l1,l2,l3];by_cases c1:t<s
 ·rw[if_pos c1,if_pos c1,at_take _ _ _ c1]
 ·rw[if_neg c1,if_neg c1];by_cases c2:t<s+(e-m)
  ·rw[if_pos c2,if_pos (by omega),at_drop,at_take _ _ _ (by omega)];congr 1;omega
  ·rw[if_neg c2,if_neg (by omega)];by_cases c3:t<e
   ·rw[if_pos c3,if_pos (by omega),at_drop,at_take _ _ _ (by omega)];congr 1;omega
   ·rw[if_neg c3,if_neg (by omega),at_drop];congr 1;omega
theorem mem_seg {d:List A} {s e:Nat} (he:e≤d.length) {x:A} (h:x∈(d.take e).drop s):∃ t,s≤t∧t<e∧at' d t=x:=by
 obtain⟨i,hi,hx⟩:=List.mem_iff_getElem.1 h;have hl:((d.take e).drop s).length=e-s:=by rw[List.length_drop,List.length_take];omega
 refine⟨s+i,by omega,by omega,?_⟩;rw[← hx,← at_get _ i hi,at_drop,at_take _ _ _ (by omega)]
theorem seg_mem {d:List A} {s e:Nat} (he:e≤d.length) {t:Nat} (h1:s≤t) (h2:t<e):at' d t∈(d.take e).drop s:=by
 have hl:((d.take e).drop s).length=e-s:=by rw[List.length_drop,List.length_take];omega
 have hi:t-s<((d.take e).drop s).length:=by omega
 have:=List.getElem_mem hi;rw[← at_get _ _ hi,at_drop,at_take _ _ _ (by omega),show s+(t-s)=t by omega]at this;exact this
theorem fc_none {l:List A} {c:Int} (h:∀ x∈l,κ x≠c):fc κ c l=[]:=by
 unfold fc;rw[List.filter_eq_nil_iff];intro x hx;simpa using h x hx
theorem rot_rel (s m e:Nat) (d:List A) (h1:s≤m) (h2:m≤e) (h3:e≤d.length) (hk:∀ p q,s≤p→p<m→m≤q→q<e→ka κ d q<ka κ d p):Rel κ s e d (rot s m e d):=by
 refine⟨rot_len s m e d h1 h2 h3,fun t ht => ?_,fun c => ?_⟩
 ·rw[rot_at s m e d h1 h2 h3];by_cases c1:t<s
  ·rw[if_pos c1]
  ·rw[if_neg c1,if_neg (by omega),if_neg (by omega)]
 ·conv=>rhs;rw[rot_parts s m e d h1 h2]
  unfold rot fc;simp only[List.filter_append];congr 1;simp only[← List.append_assoc];congr 1;show fc κ c _++fc κ c _=fc κ c _++fc κ c _;by_cases hc:∃ x∈(d.take m).drop s,κ x=c
  ·obtain⟨x,hx,hxc⟩:=hc;obtain⟨p,p1,p2,p3⟩:=mem_seg (by omega) hx;have:fc κ c ((d.take e).drop m)=[]:=fc_none fun y hy hyc=>by
    obtain⟨q,q1,q2,q3⟩:=mem_seg h3 hy;have:=hk p q p1 p2 q1 q2;unfold ka at this;rw[p3,q3,hxc,hyc]at this;omega
   rw[this,List.nil_append,List.append_nil]
  ·have:fc κ c ((d.take m).drop s)=[]:=fc_none fun x hx hxc=>hc ⟨x,hx,hxc⟩;rw[this,List.nil_append,List.append_nil]
theorem take_eq {d d':List A} {a:Nat} (hl:d'.length=d.length) (h:∀ i,i<a→at' d' i=at' d i):d'.take a=d.take a:=by
 apply List.ext_getElem (by simp[hl]);intro i h1 h2;have i1:i<a∧i<d'.length:=by rw[List.length_take]at h1;omega
 rw[List.getElem_take,List.getElem_take,← at_get d' i i1.2,← at_get d i (by omega)];exact h i i1.1
theorem drop_eq {d d':List A} {b:Nat} (hl:d'.length=d.length) (h:∀ i,b≤i→at' d' i=at' d i):d'.drop b=d.drop b:=by
 apply List.ext_getElem (by simp[hl]);intro i h1 h2;have i1:b+i<d'.length:=by rw[List.length_drop]at h1;omega
 rw[List.getElem_drop,List.getElem_drop,← at_get d' _ i1,← at_get d _ (by omega)];exact h _ (by omega)
theorem seg_parts (d:List A) (a b:Nat) (h:a≤b):d=d.take a++((d.take b).drop a++d.drop b):=by
 have a1:(d.take b).take a=d.take a:=by rw[List.take_take,Nat.min_eq_left h]
 have b1:d.take a++(d.take b).drop a=d.take b:=by rw[← a1];exact List.take_append_drop _ _
 rw[← List.append_assoc,b1,List.take_append_drop]
theorem Rel.from {a b:Nat} {d d':List A} (h:Rel κ a b d d') (hab:a≤b) (hb:b≤d.length) {t:Nat} (h1:a≤t) (h2:t<b):∃ p,a≤p∧p<b∧at' d p=at' d' t:=by
 have ht:=take_eq (a:=a) h.len fun i hi=>h.out i (.inl hi);have hd:=drop_eq (b:=b) h.len fun i hi=>h.out i (.inr hi);have hc':∀ c,(((d'.take b).drop a).filter fun x=>decide (κ x=c))=((d.take b).drop a).filter fun x=>decide (κ x=c):=fun c=>by
  have hc:=h.cl c;rw[seg_parts d a b hab,seg_parts d' a b hab,ht,hd]at hc;unfold fc at hc;simp only[List.filter_append]at hc;exact List.append_cancel_right (List.append_cancel_left hc)
 have hm:=seg_mem (d:=d') (by rw[h.len];exact hb) h1 h2;have:at' d' t∈((d'.take b).drop a).filter fun x=>decide (κ x=κ (at' d' t)):=List.mem_filter.2 ⟨hm,by simp⟩;rw[hc']at this;exact mem_seg hb (List.mem_filter.1 this).1
theorem sym_done {a mid b:Nat} {d1 d2 d3:List A} (ha:a≤mid) (hm:mid≤b) (hb:b≤d1.length) (h12:Rel κ a mid d1 d2) (h23:Rel κ mid b d2 d3) (s2:Srt κ a mid d2) (s3:Srt κ mid b d3)
 (cross:∀ p q,a≤p→p<mid→mid≤q→q<b→ka κ d1 p≤ka κ d1 q):Rel κ a b d1 d3∧Srt κ a b d3:=by
 refine⟨(h12.mono (Nat.le_refl _) hm).trans (h23.mono ha (Nat.le_refl _)),fun i j h1 h2 h3 => ?_⟩;by_cases c1:j<mid
 ·rw[h23.ka i (by omega),h23.ka j (by omega)];exact s2 i j h1 h2 c1
 ·by_cases c2:mid≤i
  ·exact s3 i j c2 h2 h3
  ·rw[h23.ka i (by omega)];obtain⟨p,p1,p2,p3⟩:=h12.from ha (by omega) h1 (show i<mid by omega);obtain⟨q,q1,q2,q3⟩:=h23.from hm (by rw[h12.len];exact hb) (show mid≤j by omega) h3;have:=cross p q p1 p2 q1 q2;have e:ka κ d2 q=ka κ d1 q:=h12.ka q (by omega);unfold ka at this e ⊢;rw[← q3,e,← p3];exact this
structure Turned (κ:A→Int) (a start m mid end' b:Nat) (d d1:List A):Prop where
 rel:Rel κ a b d d1
 s1:Srt κ a start d1
 s2:Srt κ start mid d1
 s3:Srt κ mid end' d1
 s4:Srt κ end' b d1
 cross:∀ p q,a≤p→p<mid→mid≤q→q<b→ka κ d1 p≤ka κ d1 q
theorem turned {a start m mid end' b:Nat} {d:List A} (h1:a≤start) (h2:start≤m) (h3:m≤end') (h4:end'≤b) (h5:b≤d.length) (h6:end'+start=mid+m) (hm1:start≤mid) (sa:Srt κ a m d) (sb:Srt κ m b d)
 (f2:start<m→m<end'→ka κ d (end'-1)<ka κ d start) (f3:a<start→end'<b→ka κ d (start-1)≤ka κ d end'):Turned κ a start m mid end' b d (rot start m end' d):=by
 have hk:∀ p q,start≤p→p<m→m≤q→q<end'→ka κ d q<ka κ d p:=fun p q g1 g2 g3 g4=>by
  have x1:=f2 (by omega) (by omega);have x2:ka κ d start≤ka κ d p:=by
   by_cases e:start=p
   ·subst e;exact Int.le_refl _
   ·exact sa start p h1 (by omega) g2
  have x3:ka κ d q≤ka κ d (end'-1):=by
   by_cases e:q=end'-1
   ·subst e;exact Int.le_refl _
   ·exact sb q (end'-1) g3 (by omega) (by omega)
  omega
 have hl3:end'≤d.length:=by omega
 have R:=rot_rel (κ:=κ) start m end' d h2 h3 hl3 hk;have K:∀ t,ka κ (rot start m end' d) t=if t<start then ka κ d t else if t<mid then ka κ d (t+(m-start)) else if t<end' then ka κ d (t-(end'-m)) else ka κ d t:=fun t=>by
  have e:=rot_at start m end' d h2 h3 hl3 t;have em:start+(end'-m)=mid:=by omega
  rw[em]at e;unfold ka;rw[e];by_cases c1:t<start
  ·rw[if_pos c1,if_pos c1]
  ·rw[if_neg c1,if_neg c1];by_cases c2:t<mid
   ·rw[if_pos c2,if_pos c2]
   ·rw[if_neg c2,if_neg c2];by_cases c3:t<end'
    ·rw[if_pos c3,if_pos c3]
    ·rw[if_neg c3,if_neg c3]
 have le_a:∀ p q,a≤p→p≤q→q<m→ka κ d p≤ka κ d q:=fun p q g1 g2 g3=>by
  by_cases e:p=q
  ·subst e;exact Int.le_refl _
  ·exact sa p q g1 (by omega) g3
 have le_b:∀ p q,m≤p→p≤q→q<b→ka κ d p≤ka κ d q:=fun p q g1 g2 g3=>by
  by_cases e:p=q
  ·subst e;exact Int.le_refl _
  ·exact sb p q g1 (by omega) g3
 refine⟨R.mono h1 h4,fun i j g1 g2 g3 => ?_,fun i j g1 g2 g3 => ?_,fun i j g1 g2 g3 => ?_,fun i j g1 g2 g3 => ?_,fun p q g1 g2 g3 g4 => ?_⟩
 ·rw[K i,K j,if_pos (by omega),if_pos (by omega)];exact le_a i j g1 (by omega) (by omega)
 ·rw[K i,K j,if_neg (by omega),if_pos (by omega),if_neg (by omega),if_pos (by omega)];exact le_b _ _ (by omega) (by omega) (by omega)
 ·rw[K i,K j,if_neg (by omega),if_neg (by omega),if_pos (by omega),if_neg (by omega),if_neg (by omega),if_pos (by omega)];exact le_a _ _ (by omega) (by omega) (by omega)
 ·rw[K,K,if_neg (by omega),if_neg (by omega),if_neg (by omega),if_neg (by omega),if_neg (by omega),if_neg (by omega)];exact le_b _ _ (by omega) (by omega) (by omega)
 ·rw[K p,K q];by_cases c1:p<start
  ·rw[if_pos c1,if_neg (by omega),if_neg (by omega)];by_cases c2:q<end'
   ·rw[if_pos c2];exact le_a _ _ g1 (by omega) (by omega)
   ·rw[if_neg c2];have x:=f3 (by omega) (by omega);have x1:=le_a p (start-1) g1 (by omega) (by omega);have x2:=le_b end' q (by omega) (by omega) g4;omega
  ·rw[if_neg c1,if_pos g2,if_neg (by omega),if_neg (by omega)];by_cases c2:q<end'
   ·rw[if_pos c2];exact Int.le_of_lt (hk _ _ (by omega) (by omega) (by omega) (by omega))
   ·rw[if_neg c2];exact le_b _ _ (by omega) (by omega) (by omega)
end
section
variable {κ:A→Int}
theorem order_one:∀ (l l':List A),l.Pairwise (fun x y=>κ x≤κ y)→l'.Pairwise (fun x y=>κ x≤κ y)→(∀ c,fc κ c l'=fc κ c l)→l'=l
 | [],l',_,_,h=>by
   cases l' with
   | nil=>rfl
   | cons y t =>
     have:=h (κ y);simp[fc]at this
 | x::t,l',h1,h2,h=>by
   cases l' with
   | nil =>
     have:=h (κ x);simp[fc]at this
   | cons y t' =>
     have hx:x∈fc κ (κ x) (y::t'):=by rw[h (κ x)];simp[fc]
     have hy:y∈fc κ (κ y) (x::t):=by rw[← h (κ y)];simp[fc]
     have mx:=(List.mem_filter.1 hx).1;have my:=(List.mem_filter.1 hy).1;have k1:κ y≤κ x:=by
      rcases List.mem_cons.1 mx with e|e
      ·rw[e];exact Int.le_refl _
      ·exact(List.pairwise_cons.1 h2).1 x e
     have k2:κ x≤κ y:=by
      rcases List.mem_cons.1 my with e|e
      ·rw[e];exact Int.le_refl _
      ·exact(List.pairwise_cons.1 h1).1 y e
     have hk:κ y=κ x:=by omega
     have hh:=h (κ x);simp only[fc,List.filter_cons,hk,decide_true,if_true]at hh;obtain⟨e1,e2⟩:=List.cons.inj hh;subst e1;have ht:∀ c,fc κ c t'=fc κ c t:=fun c=>by
      have hc:=h c;simp only[fc,List.filter_cons]at hc;by_cases q:κ y=c
      ·simp only[q,decide_true,if_true]at hc;exact(List.cons.inj hc).2
      ·simp only[q,decide_false,Bool.false_eq_true,if_false]at hc;exact hc
     rw[order_one t t' (List.pairwise_cons.1 h1).2 (List.pairwise_cons.1 h2).2 ht]
theorem srt_pairwise {d:List A} (h:Srt κ 0 d.length d):d.Pairwise (fun x y=>κ x≤κ y):=by
 rw[List.pairwise_iff_getElem];intro i j hi hj hij;have:=h i j (Nat.zero_le _) hij hj;unfold ka at this;rw[at_get _ _ hi,at_get _ _ hj]at this;exact this
def ins (κ:A→Int) (x:A):List A→List A
 | []=>[x]
 | y::t=>if κ y≤κ x then y::ins κ x t else x::y::t
def isort (κ:A→Int) (l:List A):List A:=l.foldl (fun acc x=>ins κ x acc) []
theorem mem_ins (x:A):∀ (l:List A) (z:A),z∈ins κ x l↔z=x∨z∈l
 | [],z=>by simp[ins]
 | y::t,z=>by
   unfold ins;split
   ·rw[List.mem_cons,mem_ins x t z,List.mem_cons];constructor
    ·rintro(h|h|h)<;>simp[h]
    ·rintro(h|h|h)<;>simp[h]
   ·rw[List.mem_cons]
theorem ins_sorted (x:A):∀ (l:List A),l.Pairwise (fun x y=>κ x≤κ y)→(ins κ x l).Pairwise (fun x y=>κ x≤κ y)
 | [],_=>by simp[ins]
 | y::t,h=>by
   unfold ins;obtain⟨h1,h2⟩:=List.pairwise_cons.1 h;split
   ·next hk =>
    refine List.pairwise_cons.2 ⟨fun z hz => ?_,ins_sorted x t h2⟩;rcases(mem_ins x t z).1 hz with e|e
    ·rw[e];exact hk
    ·exact h1 z e
   ·next hk =>
    refine List.pairwise_cons.2 ⟨fun z hz => ?_,h⟩;rcases List.mem_cons.1 hz with e|e
    ·rw[e];omega
    ·have:=h1 z e;omega
theorem ins_fc (x:A) (c:Int):∀ (l:List A),l.Pairwise (fun x y=>κ x≤κ y)→fc κ c (ins κ x l)=fc κ c l++fc κ c [x]
 | [],_=>by simp[ins]
 | y::t,h=>by
   unfold ins;obtain⟨h1,h2⟩:=List.pairwise_cons.1 h;split
   ·have ih:=ins_fc x c t h2;simp only[fc,List.filter_cons]at ih ⊢;rw[ih];split<;>simp
   ·next hk =>
    by_cases q:κ x=c
    ·have e:fc κ c (y::t)=[]:=fc_none fun z hz=>by
      rcases List.mem_cons.1 hz with e|e
      ·rw[e];omega
      ·have:=h1 z e;omega
     rw[e];show fc κ c (x::y::t)=_;rw[show x::y::t=[x]++(y::t)from rfl];unfold fc at e ⊢;rw[List.filter_append,e];simp
    ·have e:fc κ c [x]=[]:=fc_none fun z hz=>by rw[List.mem_singleton.1 hz];exact q
     rw[e,List.append_nil];show fc κ c (x::y::t)=_;simp only[fc,List.filter_cons,q,decide_false,Bool.false_eq_true,if_false]
theorem foldl_ins:∀ (l acc:List A),acc.Pairwise (fun x y=>κ x≤κ y)→(l.foldl (fun acc x=>ins κ x acc) acc).Pairwise (fun x y=>κ x≤κ y)∧∀ c,fc κ c (l.foldl (fun acc x=>ins κ x acc) acc)=fc κ c acc++fc κ c l
 | [],acc,h=>⟨h,fun c=>by simp[fc]⟩
 | x::t,acc,h=>by
   obtain⟨i1,i2⟩:=foldl_ins t (ins κ x acc) (ins_sorted x acc h);refine⟨i1,fun c => ?_⟩;rw[List.foldl_cons,i2 c,ins_fc x c acc h,List.append_assoc];congr 1;unfold fc;rw[← List.filter_append];rfl
theorem isort_sorted (l:List A):(isort κ l).Pairwise (fun x y=>κ x≤κ y):=(foldl_ins l [] List.Pairwise.nil).1
theorem isort_fc (l:List A) (c:Int):fc κ c (isort κ l)=fc κ c l:=by
 have:=(foldl_ins (κ:=κ) l [] List.Pairwise.nil).2 c;unfold isort;simpa [fc]using this
theorem sorted_is {d d':List A} (h:Cl κ d d') (s:Srt κ 0 d'.length d'):d'=isort κ d :=
 order_one _ _ (isort_sorted d) (srt_pairwise s) fun c=>by rw[h c,isort_fc]
def lastOf (κ:A→Int):List A→List A
 | []=>[]
 | [x]=>[x]
 | x::y::t=>if κ x=κ y then lastOf κ (y::t) else x::lastOf κ (y::t)
def lastL (l:List A):List A:=l.getLast?.toList
theorem lastL_cons (x:A) (l:List A) (h:l≠[]):lastL (x::l)=lastL l:=by
 unfold lastL;cases l with
 | nil=>exact absurd rfl h
 | cons y t=>rw[List.getLast?_cons_cons]
theorem lastOf_mem:∀ (l:List A) (z:A),z∈lastOf κ l→z∈l
 | [],z,h=>by simp[lastOf]at h
 | [x],z,h=>by simpa [lastOf]using h
 | x::y::t,z,h=>by
   unfold lastOf at h;split at h
   ·exact List.mem_cons_of_mem _ (lastOf_mem (y::t) z h)
   ·rcases List.mem_cons.1 h with e|e
    ·rw[e];exact List.mem_cons_self
    ·exact List.mem_cons_of_mem _ (lastOf_mem (y::t) z e)
theorem lastOf_order:∀ (l:List A),l.Pairwise (fun x y=>κ x≤κ y)→(lastOf κ l).Pairwise (fun x y=>κ x<κ y)∧∀ c,fc κ c (lastOf κ l)=lastL (fc κ c l)
 | [],_=>⟨by simp[lastOf],fun c=>by simp[lastOf,lastL]⟩
 | [x],_=>⟨by simp[lastOf],fun c=>by
     by_cases q:κ x=c<;>simp[lastOf,lastL,fc,q]⟩
 | x::y::t,h=>by
   obtain⟨h1,h2⟩:=List.pairwise_cons.1 h;obtain⟨i1,i2⟩:=lastOf_order (y::t) h2;unfold lastOf;split
   ·next hk =>
    refine⟨i1,fun c => ?_⟩;rw[i2 c];by_cases q:κ x=c
    ·have e:fc κ c (x::y::t)=x::fc κ c (y::t):=by simp[fc,q]
     have e2:fc κ c (y::t)=y::fc κ c t:=by simp[fc,← hk,q]
     rw[e,lastL_cons _ _ (by rw[e2];simp)]
    ·have e:fc κ c (x::y::t)=fc κ c (y::t):=by simp[fc,List.filter_cons,q]
     rw[e]
   ·next hk =>
    have hlt:∀ z∈y::t,κ x<κ z:=fun z hz=>by
     have a1:=h1 y List.mem_cons_self;rcases List.mem_cons.1 hz with e|e
     ·rw[e];omega
     ·have:=(List.pairwise_cons.1 h2).1 z e;omega
    refine⟨List.pairwise_cons.2 ⟨fun z hz=>hlt z (lastOf_mem _ z hz),i1⟩,fun c => ?_⟩;by_cases q:κ x=c
    ·have n1:fc κ c (y::t)=[]:=fc_none fun z hz=>by have:=hlt z hz;omega
     have n2:fc κ c (lastOf κ (y::t))=[]:=by rw[i2 c,n1];rfl
     have e1:fc κ c (x::lastOf κ (y::t))=x::fc κ c (lastOf κ (y::t)):=by simp[fc,q]
     have e2:fc κ c (x::y::t)=x::fc κ c (y::t):=by simp[fc,q]
     rw[e1,e2,n1,n2];rfl
    ·have e1:fc κ c (x::lastOf κ (y::t))=fc κ c (lastOf κ (y::t)):=by simp[fc,q]
     have e2:fc κ c (x::y::t)=fc κ c (y::t):=by simp[fc,List.filter_cons,q]
     rw[e1,e2,i2 c]
theorem lt_le {l:List A} (h:l.Pairwise (fun x y=>κ x<κ y)):l.Pairwise (fun x y=>κ x≤κ y):=h.imp fun h=>Int.le_of_lt h
end
end Sr
end Go.Proofs.YtgnihbdcdefdgaaGreatDoor

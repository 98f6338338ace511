import Derived.Test.YtgnihbdcdefdgaaGreatDoorX20
import Derived.Test.YtgnihbdcdefdgaaGreatDoorX19
import Derived.Sort.OwnSortedInts
import Derived.Test.YtgnihbdcdefdgaaGreatDoorX10
import Derived.Maps.RangeWalk
import Derived.Maps.OwnSet
set_option maxRecDepth 20000
set_option maxHeartbeats 8000000
set_option linter.unusedVariables false
open Go.ChangeShapes Go.WideShapes Go.ChangeAt Go.RowKit
open Go.Proofs.Tryz
namespace Go.Proofs.YtgnihbdcdefdgaaGreatDoor
namespace Gp
open Go.Sort
def leadA (a:A):List Int:=if a.1=2 then [a.2.2] else []
def rawA (l:List A):List Int:=l.flatMap leadA
def rawL (l:List B3):List Int:=l.flatMap fun b=>rawA b.2.2
def LO (l:List Bk):Prop:=∀ b∈l,∀ a∈b.l,a.1=2→0≤a.2.2∧a.2.2<9223372036854775808
theorem rawA_le:∀ l:List A,(rawA l).length≤l.length
 | []=>Nat.le_refl _
 | a::l=>by
   have:=rawA_le l;unfold rawA at this ⊢;rw[List.flatMap_cons,List.length_append,List.length_cons];have h1:(leadA a).length≤1:=by unfold leadA;split<;>simp
   omega
theorem rawA_snoc (l:List A) (k:Nat) (h:k<l.length):rawA (l.take (k+1))=rawA (l.take k)++leadA l[k]:=by
 rw[List.take_succ_eq_append_getElem h];unfold rawA;rw[List.flatMap_append];simp only[List.flatMap_cons,List.flatMap_nil,List.append_nil]
theorem rawL_snoc (l:List Bk) (k:Nat) (h:k<l.length):rawL ((l.take (k+1)).map Bk.b3)=rawL ((l.take k).map Bk.b3)++rawA l[k].l:=by
 rw[List.take_succ_eq_append_getElem h,List.map_append];unfold rawL;rw[List.flatMap_append];simp only[List.map_cons,List.map_nil,List.flatMap_cons,List.flatMap_nil,List.append_nil];rfl
theorem rawL_le:∀ (l:List Bk) (n:Nat),(∀ b∈l,b.l.length≤n)→(rawL (l.map Bk.b3)).length≤l.length*n
 | [],n,_=>by simp[rawL]
 | b::l,n,h=>by
   have:=rawL_le l n (fun x hx=>h x (by simp[hx]));have h0:=Nat.le_trans (rawA_le b.l) (h b (by simp));unfold rawL at this ⊢;rw[List.map_cons,List.flatMap_cons,List.length_append,List.length_cons,Nat.add_mul,Nat.one_mul];have e:b.b3.2.2=b.l:=rfl;rw[e];omega
theorem rawL_take_le (l:List Bk) (h:Sm l) (q:Nat):(rawL ((l.take q).map Bk.b3)).length≤10000:=by
 have:=rawL_le (l.take q) 100 (fun b hb=>h.a b (List.mem_of_mem_take hb));have h2:(l.take q).length≤100:=by rw[List.length_take];have:=h.n;omega
 have h3:=Nat.mul_le_mul_right 100 h2;omega
abbrev OwnI (base:Nat) (w:World) (v:Value) (zs:List Int):Prop:=w.ownsRow base 3 1 v zs.length (zs.map (Value.int .i64))
theorem infoI:(prog.info? 3).map (fun i=>(i.zero,i.size,i.bytes))=some (some (.int .i64 0),1,8):=by kernel_rfl
theorem wpList_app1 {w:World} {ops:Array Oper} {rest:List Oper} {o:Oper} {a:Act} {Q:Exit→Act→World→Prop} (hgd:o.guard=none) (s x:Operand)
 (ho:o.op=.call { callee:=.builtin .append,args:=#[s,x],argTypes:=#[122,122] }) (base:Nat) (v:Value) (zs:List Int) (hs:a.eval s=v) (hown:OwnI base w v zs)
 (g:Nat) (z:Int) (hx:a.eval x=.slice (some ⟨g,0,none⟩) 1 1) (hc:w.cell? ⟨g,0,none⟩=some (.int .i64 z)) (hn:zs.length≤100000) (hbase:base≤w.heap.size)
 (h:∀ v' w',OwnI base w' v' (zs++[z])→w.grownBy w' v.ownBlock→wpList prog ops Q rest (a.put o.dst v') w'):wpList prog ops Q (o::rest) a w:=by
 obtain⟨i0,hi,hz0,hz1,hz2⟩:=info_parts infoI
 exact wpList_append_own w hgd s x 122 ho base 3 i0 (.int .i64 0) 1 8 underlying122 hi hz0 hz1 hz2 rfl (by decide) v zs.length _ hs hown ⟨g,0,none⟩ 1 1 [.int .i64 z] hx rfl
  (fun j u hj=>by
    cases j with
    | zero=>simp at hj;subst hj;rw[addP];exact hc
    | succ j=>simp at hj) (fun u hu=>by simp at hu;subst hu;rfl) (by unfold maxLen;omega) (by omega) hbase (fun v' w' h1 h2 _=>h v' w' (by
      unfold OwnI;rw[List.length_append,List.map_append];exact h1) h2)
theorem own_put {w:World} {base g cap n n':Nat} {os:Array Obj} {cur:Array Value} {d:List Int} (hbase:base≤g) (hb:w.heap[g]? = some (.cells cur 3 (0,0))) (h1:d.length≤cap) (h2:cap≤maxLen) (h3:cur.size=cap*1) (hn:n≤d.length) :
 (grow (putRow (Value.int .i64) (Sort.ahead w n') g 0 d.toArray) os).ownsRow base 3 1 (.slice (some ⟨g,0,none⟩) n cap) n ((d.take n).map (Value.int .i64)):=by
 refine⟨by simp;omega,.inr ⟨g,cap,_,rfl,hbase,heap_sortedI _ hb,by omega,h2,by simp[putCells,h3],?_⟩⟩;have:=take_putCellsI cur d (by omega);rw[Nat.mul_one,List.map_take,← this,List.take_take];congr 1;omega
theorem compact_mem (d:Array Int) (x:Int):∀ m,m≤d.size→((∃ j,j<m∧d[j]! = x)↔x∈Lib.compactUpTo d m)
 | 0,_=>by simp[Lib.compactUpTo]
 | m+1,hm=>by
   rw[Lib.compactUpTo_succ,List.mem_append,← compact_mem d x m (by omega)];constructor
   ·rintro⟨j,hj,e⟩;by_cases hjm:j<m
    ·exact .inl ⟨j,hjm,e⟩
    ·have:j=m:=by omega
     subst this;by_cases hk:Lib.keeps d j=true
     ·right;simp[hk,e]
     ·left;unfold Lib.keeps at hk;simp only[decide_eq_true_eq]at hk;by_cases h0:j=0
      ·exact absurd (.inl h0) hk
      ·refine⟨j-1,by omega,?_⟩;rw[← e];exact Decidable.byContradiction fun hne=>hk (.inr fun e2=>hne e2.symm)
   ·rintro(⟨j,hj,e⟩|h)
    ·exact⟨j,by omega,e⟩
    ·by_cases hk:Lib.keeps d m=true
     ·simp[hk]at h;exact⟨m,by omega,h.symm⟩
     ·simp[hk]at h
theorem compact_all_mem (zs:List Int) (x:Int):x∈Lib.compactUpTo zs.toArray zs.toArray.size↔x∈zs:=by
 rw[← compact_mem zs.toArray x _ (Nat.le_refl _)];constructor
 ·rintro⟨j,hj,e⟩;have hj':j<zs.length:=by simpa using hj
  rw[← e];simp[hj']
 ·intro h;obtain⟨j,hj,e⟩:=List.getElem_of_mem h;exact⟨j,by simpa using hj,by simp[hj,e]⟩
theorem compact_len (d:Array Int):∀ m,(Lib.compactUpTo d m).length≤m
 | 0=>by simp[Lib.compactUpTo]
 | m+1=>by
   have:=compact_len d m;rw[Lib.compactUpTo_succ,List.length_append];split<;>simp<;>omega
theorem sort_own (base:Nat) (v:Value) (zs:List Int) (w:World) (hown:OwnI base w v zs) (hn:zs.length≤100000):Calls prog 87 #[v] w fun e w'=>e=.returned (.tuple #[])∧(∃ ts,OwnI base w' v ts∧ts.length=zs.length∧∀ x,x∈ts↔x∈zs)∧w.grownBy w' v.ownBlock:=by
 rcases hown.2 with⟨rfl,h0⟩|⟨g,cap,cur,rfl,hbg,hb,hnc,hcm,hcs,htk⟩
 ·refine(Tryz.slices_Sort_none none 0 w).mono ?_;rintro e w' ⟨rfl,rfl⟩;exact⟨rfl,⟨zs,hown,rfl,fun x=>Iff.rfl⟩,World.grownBy.refl _ _⟩
 ·refine(Tryz.slices_Sort_int g 0 cap zs w (holds_of_blockI hb (by simpa using htk)) (Array.getElem?_eq_some_iff.1 hb).1 (by omega)).mono ?_;rintro e w' ⟨rfl,n,os,rfl⟩;have hp:(zs.mergeSort fun x y=>decide (x≤y)).Perm zs:=List.mergeSort_perm _ _;have hl:(zs.mergeSort fun x y=>decide (x≤y)).length=zs.length:=hp.length_eq;refine⟨rfl,⟨_,?_,hl,fun x=>hp.mem_iff⟩,grownBy_sortedI _⟩;have:=ownsRow_sortedI (n:=n) (os:=os) hl hbg hb hnc hcm hcs;unfold OwnI;rw[hl];exact this
theorem compact_own (base:Nat) (v:Value) (zs:List Int) (w:World) (hown:OwnI base w v zs) (hn:zs.length≤100000):Calls prog 99 #[v] w fun e w'=>∃ v',e=.returned v'∧(∃ ts,OwnI base w' v' ts∧ts.length≤zs.length∧∀ x,x∈ts↔x∈zs)∧w.grownBy w' v.ownBlock:=by
 rcases hown.2 with⟨rfl,h0⟩|⟨g,cap,cur,rfl,hbg,hb,hnc,hcm,hcs,htk⟩
 ·refine(Tryz.slices_Compact_none none 0 w).mono ?_;rintro e w' ⟨rfl,rfl⟩;exact⟨_,rfl,⟨zs,hown,Nat.le_refl _,fun x=>Iff.rfl⟩,World.grownBy.refl _ _⟩
 ·have hc:=Tryz.slices_Compact_int g 0 cap zs.toArray w (holds_of_blockI hb (by simpa using htk)) (by simp;omega) (by simpa using hnc);rw[show zs.toArray.size=zs.length by simp]at hc;refine hc.mono ?_;rintro e w' ⟨rfl,q,rfl⟩;have hl:=compact_len zs.toArray zs.length;have hm:=compact_all_mem zs;rw[show zs.toArray.size=zs.length by simp]at hm;generalize Lib.compactUpTo zs.toArray zs.length=ts at hl hm ⊢;have e1:=grow_empty (putRow encI (Sort.ahead w q) g 0 (ts++List.replicate (zs.length-ts.length) 0).toArray);rw[← e1];refine⟨_,rfl,⟨ts,?_,hl,hm⟩,grownBy_sortedI _⟩;have:=own_put (n:=ts.length) (n':=q) (os:=#[]) (d:=ts++List.replicate (zs.length-ts.length) 0) hbg hb (by simp;omega) hcm hcs (by simp);rw[List.take_left' rfl]at this;exact this
structure LdI (V:World) (v:Value) (zs:List Int) (wr:World):Prop where
 own:OwnI V.heap.size wr v zs
 bel:Below V.heap.size V wr
theorem LdI.grow {V:World} {v:Value} {zs:List Int} {wr w2:World} (h:LdI V v zs wr) (g:Below wr.heap.size wr w2):LdI V v zs w2 :=
 ⟨own_below h.own g,h.bel.trans (g.mono h.bel.size)⟩
theorem LdI.app {V:World} {v v':Value} {zs ts:List Int} {wr w2:World} (h:LdI V v zs wr) (k:wr.grownBy w2 v.ownBlock) (o:OwnI V.heap.size w2 v' ts):LdI V v' ts w2 :=
 ⟨o,h.bel.grown k h.bel.size (fun j hj=>(h.own.lt j hj).1)⟩
theorem own_mono {base base' e size n:Nat} {w:World} {v:Value} {xs:List Value} (h:w.ownsRow base e size v n xs) (hb:base'≤base):w.ownsRow base' e size v n xs:=by
 rcases h.2 with⟨h1,h2⟩|⟨g,cap,cur,h1,h2,h3⟩
 ·exact⟨h.1,.inl ⟨h1,h2⟩⟩
 ·exact⟨h.1,.inr ⟨g,cap,cur,h1,by omega,h3⟩⟩
theorem leads_any (g:Gr) (w:World) (hT:Bs w g.a g.l) (hn:Sm g.l) (hLO:LO g.l):Calls prog 60 #[gV g] w fun e w'=>∃ v zs,e=.returned v∧OwnI w.heap.size w' v zs∧(∀ x,x∈zs↔x∈rawL (g.l.map Bk.b3))∧zs.length≤10000∧Below w.heap.size w w':=by
 obtain⟨id,kd,ga,l,gc⟩:=g;simp only at hT hn hLO;have HN1:Hid (l.length≤100):=hn.n;have HN2:Hid (∀ b∈l,b.l.length≤100):=hn.a;have HNr:Hid (∀ q,(rawL ((l.take q).map Bk.b3)).length≤10000):=(show ∀ q,_ from rawL_take_le l hn)
 obtain⟨V,hV⟩:∃ V,w.alloc (.cells #[.int .i64 id,.int .i64 kd,.slice ga l.length gc] 81)=V:=⟨_,rfl⟩
 have GV:Below w.heap.size w V:=by rw[← hV];go_grown
 have zV:V.heap.size=w.heap.size+1:=by rw[← hV];simp
 have cV:Cg V w.heap.size 0 ⟨id,kd,ga,l,gc⟩:=by rw[← hV];exact Cg.new w ⟨id,kd,ga,l,gc⟩
 have TV:Bs V ga l:=hT.below GV;have HV:Hid (w.alloc (.cells #[.int .i64 id,.int .i64 kd,.slice ga l.length gc] 81)=V):=hV;have HT:Hid (∀ w',Below V.heap.size V w'→Bs w' ga l∧Below w.heap.size w w'∧V.heap.size≤w'.heap.size∧w.heap.size<w'.heap.size):=(show ∀ w',_ from fun w' h=>⟨TV.below h,btr GV h (by omega),h.size,by have:=h.size;omega⟩)
 have HZ:Hid (w.heap.size≤V.heap.size):=(show _≤_ by omega)
 have HLO:Hid (LO l):=hLO;have c2:V.cell? ⟨w.heap.size,2,none⟩=some (.slice ga l.length gc):=cV.2.2;show Calls prog 60 #[.agg #[.int .i64 id,.int .i64 kd,.slice ga l.length gc]] w fun e w'=>∃ v zs,e=.returned v∧OwnI w.heap.size w' v zs∧(∀ x,x∈zs↔x∈rawL (l.map Bk.b3))∧zs.length≤10000∧Below w.heap.size w w';clear hT TV cV GV zV hV hn hLO;go_enter func60,ntmps60;go_wp2_with fail;rw[HV.out];clear c2 HV;go_loopw [3,11] (fun v3 v wr=>∃ q:Nat,q≤l.length∧v=.int .i64 q∧Hid (LdI V v3 (rawL ((l.take q).map Bk.b3)) wr)) (fun _ v _=>l.length-(intOf v).toNat);case atStart=>exact⟨0,Nat.zero_le _,rfl,(show LdI _ _ _ _ from⟨World.ownsRow_nil _ _ _ _,Below.refl _ _⟩)⟩
 case round =>
  obtain⟨q,hq,rfl,HI⟩:=hrel;have hn1:=HN1.out;obtain⟨hBs,hw,zr,zr2⟩:=HT.out _ HI.out.bel;by_cases hlt:q<l.length
  ·obtain⟨b,o,rfl,hb,hc⟩:=hBs.at hlt;obtain⟨d0,d1,d2⟩:=hc q hlt;have hTs:=hBs.1 l[q] (List.getElem_mem hlt);have hn2:=HN2.out l[q] (List.getElem_mem hlt);have HLq:Hid (∀ a∈l[q].l,a.1=2→0≤a.2.2∧a.2.2<9223372036854775808):=HLO.out l[q] (List.getElem_mem hlt);have HRq:Hid (rawL ((l.take (q+1)).map Bk.b3)=rawL ((l.take q).map Bk.b3)++rawA l[q].l):=rawL_snoc l q hlt;have HNq:Hid ((rawL ((l.take q).map Bk.b3)).length≤10000):=HNr.out q;have HTs:Hid (∀ w',Below V.heap.size V w'→Ts w' l[q].a l[q].l):=(show ∀ w',_ from fun w' h=>(HT.out w' h).1.1 l[q] (List.getElem_mem hlt))
   clear hc hBs hw hTs;generalize l[q]=X at *
   obtain⟨wa,we,xa,xl,xc⟩:=X;simp only at d0 d1 d2 hn2 HLq HRq HTs;have HU:Hid (LdI V u3 (rawL ((l.take q).map Bk.b3)++rawA (xl.take 0)) (wr.alloc (.cells #[.int .i64 wa,.int .i64 we,.slice xa xl.length xc] 93))):=(show LdI _ _ _ _ by
    rw[List.take_zero];simpa [rawA]using HI.out.grow (by go_grown))
   clear HI;go_wp2_with fail;go_loopw [3,18] (fun v3 v wr=>∃ j:Nat,j≤xl.length∧v=.int .i64 j∧Hid (LdI V v3 (rawL ((l.take q).map Bk.b3)++rawA (xl.take j)) wr)) (fun _ v _=>xl.length-(intOf v).toNat);case atStart=>exact⟨0,Nat.zero_le _,rfl,HU⟩
   case round =>
    obtain⟨j,hj,rfl,HJ⟩:=hrel;by_cases hjt:j<xl.length
    ·obtain⟨b2,o2,rfl,hb2,hc2⟩:=(HTs.out _ HJ.out.bel).at hjt;obtain⟨e0,e1,e2⟩:=hc2 j hjt;have hz:=HJ.out.bel.size;have HAq:Hid (rawL ((l.take q).map Bk.b3)++rawA (xl.take (j+1))=(rawL ((l.take q).map Bk.b3)++rawA (xl.take j))++leadA xl[j]):=(show _=_ by rw[rawA_snoc xl j hjt,List.append_assoc])
     have HLj:Hid (xl[j].1=2→0≤xl[j].2.2∧xl[j].2.2<9223372036854775808):=HLq.out xl[j] (List.getElem_mem hjt);have HNj:Hid ((rawL ((l.take q).map Bk.b3)++rawA (xl.take j)).length≤100000):=(show _≤_ by
      rw[List.length_append];have h1:=HNq.out;have h2:=rawA_le (xl.take j);rw[List.length_take]at h2;omega)
     clear hc2 HU d0 d1 d2;generalize xl[j]=Y at *
     obtain⟨yk,yf,yv⟩:=Y;simp only at e0 e1 e2 HLj;by_cases hk:yk=2
     ·have hkb:(yk==2)=true:=by simp[hk]
      have hv:=HLj.out hk;have HA1:Hid ((rawL ((l.take q).map Bk.b3)++rawA (xl.take (j+1)))=(rawL ((l.take q).map Bk.b3)++rawA (xl.take j))++[yv]):=(show _=_ by rw[HAq.out];simp[leadA,hk])
      subst hk;have HJ2:Hid (LdI V u3 (rawL ((l.take q).map Bk.b3)++rawA (xl.take j)) ((wr.alloc (.cells #[.int .i64 2,.int .i64 yf,.int .u64 yv] 95)).alloc (.cells #[.int .i64 yv] 3))):=(show LdI _ _ _ _ from HJ.out.grow (by go_grown))
      clear HJ;go_wp2_with (at_builtin;refine wpList_app1 rfl _ _ rfl V.heap.size u3 (rawL ((l.take q).map Bk.b3)++rawA (xl.take j)) rfl HJ2.out.own (wr.heap.size+1) yv rfl (by simp) HNj.out HJ2.out.bel.size ?_;intro v' w1 ho hg);have HJ3:Hid (LdI V v' (rawL ((l.take q).map Bk.b3)++rawA (xl.take (j+1))) w1):=(show LdI _ _ _ _ by rw[HA1.out];exact HJ2.out.app hg ho)
      clear HJ2 ho hg;go_wp2_with fail;go_roundw;case rel=>exact⟨j+1,by omega,by go_num,HJ3⟩
      case measure=>simp[intOf];omega
     ·have hkb:(yk==2)=false:=by simp[hk]
      have HA1:Hid ((rawL ((l.take q).map Bk.b3)++rawA (xl.take (j+1)))=(rawL ((l.take q).map Bk.b3)++rawA (xl.take j))):=(show _=_ by rw[HAq.out];simp[leadA,hk])
      have HJ1:Hid (LdI V u3 (rawL ((l.take q).map Bk.b3)++rawA (xl.take (j+1))) (wr.alloc (.cells #[.int .i64 yk,.int .i64 yf,.int .u64 yv] 95))):=(show LdI _ _ _ _ by rw[HA1.out];exact HJ.out.grow (by go_grown))
      clear hk;go_wp2_with fail;go_roundw;case rel=>exact⟨j+1,by omega,by go_num,HJ1⟩
      case measure=>simp[intOf];omega
    ·have e:j=xl.length:=by omega
     subst e;have HJ1:Hid (LdI V u3 (rawL ((l.take (q+1)).map Bk.b3)) wr):=(show LdI _ _ _ _ by rw[HRq.out];have:=HJ.out;rwa [List.take_length]at this)
     clear HJ HU;go_wp2_with fail;go_roundw;case rel=>exact⟨q+1,by omega,by go_num,HJ1⟩
     case measure=>simp[intOf];omega
  ·have e:q=l.length:=by omega
   subst e;rw[List.take_length]at HI;have HNq:Hid ((rawL (l.map Bk.b3)).length≤10000):=(show _≤_ by have:=HNr.out l.length;rwa [List.take_length]at this)
   clear HNr;go_wp2_with fail;refine(sort_own V.heap.size u3 (rawL (l.map Bk.b3)) wr HI.out.own (by have:=HNq.out;omega)).mono ?_;rintro e w1 ⟨rfl,⟨ts,o1,l1,m1⟩,k1⟩;have J1:LdI V u3 ts w1:=HI.out.app k1 o1;have HJ1:Hid (LdI V u3 ts w1):=J1;clear J1 o1 k1;go_wp2_with fail;refine(compact_own V.heap.size u3 ts w1 HJ1.out.own (by have:=HNq.out;omega)).mono ?_;rintro e w2 ⟨v',rfl,⟨zs,o2,l2,m2⟩,k2⟩;have HJ2:Hid (LdI V v' zs w2):=HJ1.out.app k2 o2;clear o2 k2 HJ1;go_wp2_with fail;go_ret;exact⟨v',zs,rfl,own_mono HJ2.out.own HZ.out,fun x=>(m2 x).trans (m1 x),by have:=HNq.out;omega,(HT.out _ HJ2.out.bel).2.1⟩
open Go.Maps
open Go.WideElems (Fit rd rg pl)
abbrev GH:=Int × Int × Option Addr × Nat × Nat
abbrev hV (h:GH):Value:=.agg #[.int .i64 h.1,.int .i64 h.2.1,.slice h.2.2.1 h.2.2.2.1 h.2.2.2.2]
def Gr.h (g:Gr):GH:=(g.id,g.kd,g.a,g.l.length,g.c)
theorem hV_h (g:Gr):hV g.h=gV g:=rfl
def Re (v:Value):Option (DataW GH × List MemPlace) :=
 match v with
 | .agg cs=>(match cs.toList with
   | [.int .i64 i,.int .i64 k,.slice a n c]=>some (.held (i,k,a,n,c),[])
   | _=>none)
 | _=>none
theorem Re_mk (h:GH):Re (hV h)=some (.held h,[]):=rfl
theorem Re_inv {v:Value} {y:DataW GH × List MemPlace} (h:Re v=some y):∃ g:GH,v=hV g∧y=(.held g,[]):=by
 unfold Re at h;split at h
 ·rename_i cs;split at h
  ·rename_i i k a n c hcs;refine⟨(i,k,a,n,c),?_,(Option.some.inj h).symm⟩;have e:cs=#[.int .i64 i,.int .i64 k,.slice a n c]:=Array.toList_inj.1 (by simpa using hcs);rw[e]
  ·cases h
 ·cases h
theorem law:Keyed prog 3:=int_keyed underlying3
theorem zeroG (w:World):(zeroValue 81).run prog w=.ok (hV (0,0,none,0,0)) w:=by kernel_rfl
abbrev kL (i:Int):Lit:=.int .i64 i
def eG (g:Gr):Lit × DataW GH:=(kL g.id,.held g.h)
def mD (L:List Gr):DataW GH:=.map (L.map eG)
def hasP (L:List Gr) (i:Int):Bool:=L.any fun g=>decide (g.id=i)
theorem hasP_iff {L:List Gr} {i:Int}:hasP L i=true↔∃ g∈L,g.id=i:=by
 unfold hasP;rw[List.any_eq_true];constructor
 ·rintro⟨g,h1,h2⟩;exact⟨g,h1,of_decide_eq_true h2⟩
 ·rintro⟨g,h1,h2⟩;exact⟨g,h1,decide_eq_true h2⟩
theorem same_kL (i j:Int):(kL i).sameKey (kL j)=decide (i=j):=by simp[Lit.sameKey]
theorem has_mD (L:List Gr) (i:Int):Maps.has (mD L) (kL i)=hasP L i:=by
 unfold mD hasP;rw[Maps.has_eq,List.any_map];congr 1;funext g;exact same_kL _ _
theorem at_mD {L:List Gr} {i:Int} {h:GH} (ha:∀ z,(mD L).atKey (kL i) z=.held h):∃ g∈L,g.id=i∧g.h=h:=by
 have h0:=ha .nil;unfold mD DataW.atKey at h0;simp only at h0;split at h0
 ·rename_i p hp;obtain⟨g,hg,e⟩:=List.mem_map.1 (List.mem_of_find?_eq_some hp);have hs:=List.find?_some hp;subst e;refine⟨g,hg,?_,?_⟩
  ·simpa [eG,same_kL]using hs
  ·simpa [eG]using h0
 ·cases h0
def insG (g:Gr):List Gr→List Gr
 | []=>[g]
 | y::r=>if g.id<y.id then g::y::r else y::insG g r
def delG (i:Int) (L:List Gr):List Gr:=L.filter fun g=>!decide (g.id=i)
def putG (g:Gr) (L:List Gr):List Gr:=insG g (delG g.id L)
theorem ins_map (g:Gr):∀ L:List Gr,DataW.insert (eG g) (L.map eG)=(insG g L).map eG
 | []=>rfl
 | y::r=>by
   rw[List.map_cons,DataW.insert,insG];have e:(eG g).1.before (eG y).1=decide (g.id<y.id):=rfl;rw[e];by_cases h:g.id<y.id
   ·simp[h]
   ·simp[h,ins_map g r]
theorem del_map (i:Int) (L:List Gr):(L.map eG).filter (fun p=>!p.1.sameKey (kL i))=(delG i L).map eG:=by
 unfold delG;rw[List.filter_map];congr 1;apply List.filter_congr;intro g _;simp[eG,same_kL]
theorem put_mD (g:Gr) (L:List Gr):(mD L).put (kL g.id) (.held g.h)=mD (putG g L):=by
 unfold mD DataW.put putG;simp only;rw[del_map];exact congrArg _ (ins_map g _)
theorem size_mD (L:List Gr):Maps.size (mD L)=L.length:=by unfold mD;rw[Maps.size_eq,List.length_map]
theorem mem_ins {g x:Gr}:∀ {L:List Gr},x∈insG g L↔x=g∨x∈L
 | []=>by simp[insG]
 | y::r=>by
   unfold insG;split
   ·simp
   ·rw[List.mem_cons,mem_ins,List.mem_cons];constructor
    ·rintro(h|h|h)
     ·exact .inr (.inl h)
     ·exact .inl h
     ·exact .inr (.inr h)
    ·rintro(h|h|h)
     ·exact .inr (.inl h)
     ·exact .inl h
     ·exact .inr (.inr h)
theorem mem_del {x:Gr} {i:Int} {L:List Gr}:x∈delG i L↔x∈L∧x.id≠i:=by simp[delG]
theorem mem_put {g x:Gr} {L:List Gr}:x∈putG g L↔x=g∨(x∈L∧x.id≠g.id):=by unfold putG;rw[mem_ins,mem_del]
theorem len_ins (g:Gr):∀ L:List Gr,(insG g L).length=L.length+1
 | []=>rfl
 | y::r=>by
   unfold insG;split
   ·simp
   ·simp[len_ins g r]
theorem del_none {i:Int} {L:List Gr} (h:hasP L i=false):delG i L=L:=by
 unfold delG;rw[List.filter_eq_self];intro g hg;have : ¬ g.id=i:=fun e=>by
  have:hasP L i=true:=hasP_iff.2 ⟨g,hg,e⟩;rw[h]at this;cases this
 simp[this]
abbrev SrtG (L:List Gr):Prop:=L.Pairwise fun x y=>x.id<y.id
theorem srt_ins {g:Gr}:∀ {L:List Gr},SrtG L→(∀ x∈L,x.id≠g.id)→SrtG (insG g L)
 | [],_,_=>by simp[insG,SrtG]
 | y::r,h,hn=>by
   obtain⟨h1,h2⟩:=List.pairwise_cons.1 h;unfold insG;split
   ·rename_i hlt;refine List.pairwise_cons.2 ⟨fun x hx => ?_,h⟩;rcases List.mem_cons.1 hx with rfl|hx
    ·exact hlt
    ·have:=h1 x hx;omega
   ·rename_i hlt;refine List.pairwise_cons.2 ⟨fun x hx => ?_,srt_ins h2 (fun x hx=>hn x (List.mem_cons_of_mem _ hx))⟩;rcases mem_ins.1 hx with rfl|hx
    ·have:=hn y (by simp);omega
    ·exact h1 x hx
theorem srt_del {i:Int} {L:List Gr} (h:SrtG L):SrtG (delG i L):=List.Pairwise.sublist List.filter_sublist h
theorem srt_put {g:Gr} {L:List Gr} (h:SrtG L):SrtG (putG g L):=srt_ins (srt_del h) (fun x hx=>(mem_del.1 hx).2)
theorem srt_one:∀ {L:List Gr},SrtG L→∀ {x y:Gr},x∈L→y∈L→x.id=y.id→x=y
 | [],_,_,_,hx,_,_=>by cases hx
 | z::r,h,x,y,hx,hy,e=>by
   obtain⟨h1,h2⟩:=List.pairwise_cons.1 h;rcases List.mem_cons.1 hx with ex|hx'
   ·rcases List.mem_cons.1 hy with ey|hy'
    ·rw[ex,ey]
    ·have:=h1 y hy';rw[← ex]at this;omega
   ·rcases List.mem_cons.1 hy with ey|hy'
    ·have:=h1 x hx';rw[← ey]at this;omega
    ·exact srt_one h2 hx' hy' e
structure GW (w:World) (mb:Nat) (g:Gr):Prop where
 bs:Bs w g.a g.l
 sm:Sm g.l
 ok:rightE g.p=0
 ne : ¬ InB g.a g.l mb
theorem GW.below {w w':World} {mb:Nat} {g:Gr} (h:GW w mb g) (k:Below w.heap.size w w'):GW w' mb g:=⟨h.bs.below k,h.sm,h.ok,h.ne⟩
theorem GW.grown {w w':World} {mb:Nat} {g:Gr} (h:GW w mb g) (k:w.grownBy w' (some mb)):GW w' mb g :=
 ⟨h.bs.stay k.size (fun b hb hlt=>k.block b hlt (fun e=>by cases e;exact h.ne hb)),h.sm,h.ok,h.ne⟩
structure Tb (w:World) (tb mb:Nat) (room:Int) (L:List Gr):Prop where
 c0:w.cell? ⟨tb,0,none⟩=some (.int .i64 room)
 c1:w.cell? ⟨tb,1,none⟩=some (.map (some mb))
 lt:tb<w.heap.size
 own:w.ownsMap prog 3 Re mb L.length (mD L)
 grp:∀ g∈L,GW w mb g
 srt:SrtG L
theorem own_len {w:World} {mb n:Nat} {L:List Gr} (h:w.ownsMap prog 3 Re mb n (mD L)):w.ownsMap prog 3 Re mb L.length (mD L):=by
 obtain⟨es,clock,h1,h2,h3,h4⟩:=h;refine⟨es,clock,h1,h2,?_,h4⟩;have e:=congrArg Maps.size h4;rw[size_mD,Maps.size_eq,length_sorted]at e;simp at e;omega
theorem Tb.mlt {w:World} {tb mb:Nat} {room:Int} {L:List Gr} (h:Tb w tb mb room L):mb<w.heap.size:=h.own.lt
theorem Tb.ne {w:World} {tb mb:Nat} {room:Int} {L:List Gr} (h:Tb w tb mb room L):tb≠mb:=by
 intro e;subst e;obtain⟨es,clock,h1,_⟩:=h.own;have:=h.c0;simp[World.cell?,h1]at this
theorem Tb.below {w w':World} {tb mb:Nat} {room:Int} {L:List Gr} (h:Tb w tb mb room L) (k:Below w.heap.size w w'):Tb w' tb mb room L :=
 ⟨(k.cell (p:=⟨tb,0,none⟩) h.lt).trans h.c0,(k.cell (p:=⟨tb,1,none⟩) h.lt).trans h.c1,Nat.lt_of_lt_of_le h.lt k.size,h.own.kept (row:=none) ⟨k.os,k.tape,k.output,k.size,fun i hi _=>k.block i hi⟩ (by simp),fun g hg=>(h.grp g hg).below k,h.srt⟩
theorem key_wf {i:Int} (h0 : -9223372036854775808≤i) (h1:i≤9223372036854775807):keyOf prog 3 (.int .i64 i)=some (kL i):=keyOf_int_mk underlying3 (WalkArith.wf_i64 (by omega))
theorem Tb.look {w:World} {tb mb:Nat} {room:Int} {L:List Gr} (h:Tb w tb mb room L) (c:Bool) (i:Int) (h0 : -9223372036854775808≤i) (h1:i≤9223372036854775807) :
 (hasP L i=false∧(Instr.lookup 125 (.map (some mb)) (.int .i64 i) c).run prog w=.ok (if c then .tuple #[hV (0,0,none,0,0),.bool false] else hV (0,0,none,0,0)) w) ∨
 ∃ g∈L,g.id=i∧hasP L i=true∧(Instr.lookup 125 (.map (some mb)) (.int .i64 i) c).run prog w=.ok (if c then .tuple #[gV g,.bool true] else gV g) w:=by
 obtain⟨es,clock,hb,F,_,hD⟩:=h.own;rcases fit_look c law underlying125 (zeroG w) hb F (key_wf h0 h1)with⟨hr,_,ha⟩|⟨e0,y,_,_,hr,hy,ha,_⟩
 ·rw[← hD]at ha;refine .inl ⟨?_,hr⟩;rw[← has_mD];exact Maps.has_false_of_atKey ha
 ·rw[← hD]at ha;obtain⟨gh,e1,e2⟩:=Re_inv hy;have ha':∀ z,(mD L).atKey (kL i) z=.held gh:=fun z=>by rw[ha z,e2]
  obtain⟨g,hg,hid,hh⟩:=at_mD ha';refine .inr ⟨g,hg,hid,hasP_iff.2 ⟨g,hg,hid⟩,?_⟩;rw[hr,e1,← hh,hV_h]
abbrev ptr (b:Nat):Value:=.pointer (some ⟨b,0,none⟩)
theorem new_no (room:Int) (w:World) (h:inB room 1 64=false):Calls prog 27 #[.int .i64 room] w fun e w'=>e=.returned (.tuple #[.pointer none,.int .i64 1])∧w'=w:=by
 have HW:Hid (Calls prog 56 #[.int .i64 room,.int .i64 1,.int .i64 64] w fun e w'=>e=.returned (.bool (inB room 1 64))∧w'=w):=within_any room 1 64 w;rw[h]at HW;clear h;go_enter func27,ntmps27;go_wp2_with fail;refine HW.out.mono ?_;rintro e w1 ⟨rfl,rfl⟩;go_wp2_with fail;go_ret2
 exact⟨rfl,rfl⟩
theorem tb_new (w:World) (room:Int):Tb ((w.alloc (.map #[] 0)).alloc (.cells #[.int .i64 room,.map (some w.heap.size)] 127)) (w.heap.size+1) w.heap.size room [] :=
 ⟨by simp,by simp,by simp,(World.ownsMap_made w prog 3 Re).alloc _,by simp,List.Pairwise.nil⟩
theorem new_yes (room:Int) (w:World) (h:inB room 1 64=true):Calls prog 27 #[.int .i64 room] w fun e w'=>e=.returned (.tuple #[ptr (w.heap.size+1),.int .i64 0])∧Tb w' (w.heap.size+1) w.heap.size room []∧Below w.heap.size w w':=by
 have HW:Hid (Calls prog 56 #[.int .i64 room,.int .i64 1,.int .i64 64] w fun e w'=>e=.returned (.bool (inB room 1 64))∧w'=w):=within_any room 1 64 w;rw[h]at HW;have HT:=tb_new w room;have HT:Hid (Tb ((w.alloc (.map #[] 0)).alloc (.cells #[.int .i64 room,.map (some w.heap.size)] 127)) (w.heap.size+1) w.heap.size room []):=HT;clear h;have hmm:=@run_makeMap prog;go_enter func27,ntmps27;go_wp2_with fail;refine HW.out.mono ?_;rintro e w1 ⟨rfl,rfl⟩;go_wp2_with fail;go_ret2
 exact⟨rfl,HT.out,by go_grown⟩
theorem has_any {tb mb:Nat} {room:Int} {L:List Gr} (i:Int) (w:World) (h:Tb w tb mb room L) (h0 : -9223372036854775808≤i) (h1:i≤9223372036854775807) :
 Calls prog 58 #[ptr tb,.int .i64 i] w fun e w'=>e=.returned (.bool (hasP L i))∧Below w.heap.size w w':=by
 have c1:=h.c1;have lt:=h.lt;rcases h.look true i h0 h1 with⟨e,hr⟩|⟨g,hg,hid,e,hr⟩
 ·rw[e];simp only[if_true]at hr;clear h h0 h1 e;go_enter func58,ntmps58;go_wp2_with fail;go_ret;exact⟨rfl,by go_grown⟩
 ·rw[e];simp only[if_true]at hr;clear h h0 h1 e;go_enter func58,ntmps58;go_wp2_with fail;go_ret;exact⟨rfl,by go_grown⟩
theorem own_cells {base:Nat} {w:World} {v:Value} {zs:List Int} (h:OwnI base w v zs):(zs=[]∧∃ a c,v=.slice a 0 c)∨∃ g cap,v=.slice (some ⟨g,0,none⟩) zs.length cap∧g<w.heap.size∧zs.length≤cap∧∀ j (hj:j<zs.length),w.cell? ⟨g,j,none⟩=some (.int .i64 zs[j]):=by
 rcases h.2 with⟨rfl,h0⟩|⟨g,cap,cur,rfl,hbg,hb,hnc,_⟩
 ·exact .inl ⟨List.length_eq_zero_iff.1 h0,none,0,rfl⟩
 ·refine .inr ⟨g,cap,rfl,(Array.getElem?_eq_some_iff.1 hb).1,hnc,fun j hj => ?_⟩;rw[h.cellAt j (by omega)];simp[hj]
theorem hasAll_any {tb mb:Nat} {room:Int} {L:List Gr} (v:Value) (zs:List Int) (w:World) (base:Nat) (h:Tb w tb mb room L) (ho:OwnI base w v zs) (hw:∀ x∈zs,0≤x∧x<9223372036854775808) (hn:zs.length≤10000) :
 Calls prog 59 #[ptr tb,v] w fun e w'=>e=.returned (.bool (zs.all (hasP L)))∧Below w.heap.size w w':=by
 rcases own_cells ho with⟨rfl,a,c,rfl⟩|⟨g,cap,rfl,hg,hcap,hc⟩
 ·clear ho hw hn h;go_enter func59,ntmps59;go_wp2_with fail;go_loopw [9] (fun v wr=>v=.int .i64 0∧wr=w) (fun _ _=>0);case atStart=>exact⟨rfl,rfl⟩
  case round =>
   obtain⟨rfl,rfl⟩:=hrel;go_wp2_with fail;go_ret;exact⟨rfl,Below.refl _ _⟩
 ·have HH:Hid (∀ (i:Int) w1,Below w.heap.size w w1→0≤i∧i<9223372036854775808→Calls prog 58 #[ptr tb,.int .i64 i] w1 fun e w'=>e=.returned (.bool (hasP L i))∧Below w1.heap.size w1 w'):=(show ∀ (i:Int) w1,_ from fun i w1 k hi=>has_any i w1 (h.below k) (by omega) (by omega))
  have HC:Hid (∀ w1,Below w.heap.size w w1→∀ j (hj:j<zs.length),w1.cell? ⟨g,j,none⟩=some (.int .i64 zs[j])):=(show ∀ w1,_ from fun w1 k j hj=>(k.cell (p:=⟨g,j,none⟩) hg).trans (hc j hj))
  have HW:Hid (∀ x∈zs,0≤x∧x<9223372036854775808):=hw;have HN:Hid (zs.length≤10000∧zs.length≤cap):=(show _∧_ from⟨hn,hcap⟩)
  clear ho hw hn hcap h hc;go_enter func59,ntmps59;go_wp2_with fail;go_loopw [9] (fun v wr=>∃ q:Nat,q≤zs.length∧v=.int .i64 q∧Hid (∀ i (hi:i<zs.length),i<q→hasP L zs[i]=true)∧Below w.heap.size w wr) (fun v _=>zs.length-(intOf v).toNat);case atStart=>exact⟨0,Nat.zero_le _,rfl,(show ∀ i (hi:i<zs.length),_ from fun i _ h=>by omega),Below.refl _ _⟩
  case round =>
   obtain⟨q,hq,rfl,HP,hbel⟩:=hrel;obtain⟨hn,hcap⟩:=HN.out;by_cases hlt:q<zs.length
   ·have c:=HC.out _ hbel q hlt;have HX:Hid (Calls prog 58 #[ptr tb,.int .i64 zs[q]] wr fun e w'=>e=.returned (.bool (hasP L zs[q]))∧Below wr.heap.size wr w'):=HH.out zs[q] wr hbel (HW.out _ (List.getElem_mem hlt));have HNx:Hid (hasP L zs[q]=true→∀ i (hi:i<zs.length),i<q+1→hasP L zs[i]=true):=(show _→_ from fun h=>all_step (f:=hasP L) hlt HP.out h)
    have HS:Hid (hasP L zs[q]=false→zs.all (hasP L)=false):=(show _→_ from fun h=>all_stop (f:=hasP L) hlt h)
    have HB:Hid (Below w.heap.size w wr):=hbel;clear hbel HP;generalize hasP L zs[q]=R at *
    generalize zs[q]=X at *
    go_wp2_with fail;refine HX.out.mono ?_;rintro e w2 ⟨rfl,g2⟩;have hb2:Below w.heap.size w w2:=btr HB.out g2 (Nat.le_refl _);clear g2;cases R with
    | false =>
      have HF:Hid (zs.all (hasP L)=false):=HS.out rfl;go_wp2_with fail;go_ret;exact⟨by rw[HF.out];rfl,hb2⟩
    | true =>
      have HN':Hid (∀ i (hi:i<zs.length),i<q+1→hasP L zs[i]=true):=HNx.out rfl;go_wp2_with fail;go_roundw;case rel=>exact⟨q+1,by omega,by go_num,HN',hb2⟩
      case measure=>simp[intOf];omega
   ·have e:q=zs.length:=by omega
    subst e;have HE:Hid (zs.all (hasP L)=true):=all_end (f:=hasP L) HP.out;clear HP;go_wp2_with fail;go_ret;exact⟨by rw[HE.out];rfl,hbel⟩
theorem rightE_acts {g:Gr} (h:rightE g.p=0):actsB (g.l.map Bk.b3)=true:=by
 unfold rightE at h;by_cases hf:formB g.p.1 g.p.2.1 g.p.2.2=true
 ·rw[if_pos hf]at h;by_cases ha:actsB g.p.2.2=true
  ·exact ha
  ·rw[if_neg ha]at h;cases h
 ·rw[if_neg hf]at h;cases h
theorem acts_at {g:Gr} (h:actsB (g.l.map Bk.b3)=true) {b:Bk} (hb:b∈g.l) {a:A} (ha:a∈b.l):rightB a=true:=by
 unfold actsB at h;rw[List.all_eq_true]at h;have:=h b.b3 (List.mem_map.2 ⟨b,hb,rfl⟩);unfold allB at this;exact List.all_eq_true.1 this a ha
theorem right_lead {a:A} (h:rightB a=true) (h2:a.1=2):1≤a.2.2∧a.2.2≤4294967295:=by
 rcases right_cases h with h|h|h|h|h
 ·omega
 ·exact⟨h.2.2.1,h.2.2.2⟩
 ·omega
 ·omega
 ·omega
theorem LO_of {g:Gr} (h:rightE g.p=0):LO g.l:=fun b hb a ha h2=>by
 have:=right_lead (acts_at (rightE_acts h) hb ha) h2;omega
theorem mem_rawA {l:List A} {x:Int}:x∈rawA l↔∃ a∈l,a.1=2∧a.2.2=x:=by
 unfold rawA leadA;rw[List.mem_flatMap];constructor
 ·rintro⟨a,ha,hx⟩;split at hx
  ·rename_i h;simp at hx;exact⟨a,ha,h,hx.symm⟩
  ·cases hx
 ·rintro⟨a,ha,h,e⟩;exact⟨a,ha,by rw[if_pos h,e];simp⟩
theorem mem_rawL {l:List B3} {x:Int}:x∈rawL l↔∃ b∈l,∃ a∈b.2.2,a.1=2∧a.2.2=x:=by
 unfold rawL;rw[List.mem_flatMap];constructor
 ·rintro⟨b,hb,hx⟩;exact⟨b,hb,mem_rawA.1 hx⟩
 ·rintro⟨b,hb,hx⟩;exact⟨b,hb,mem_rawA.2 hx⟩
theorem raw_wf {g:Gr} (h:rightE g.p=0) {x:Int} (hx:x∈rawL (g.l.map Bk.b3)):1≤x∧x≤4294967295:=by
 obtain⟨b,hb,a,ha,h2,rfl⟩:=mem_rawL.1 hx;obtain⟨b',hb',rfl⟩:=List.mem_map.1 hb;exact right_lead (acts_at (rightE_acts h) hb' ha) h2
def leadsAll (L:List Gr) (l:List B3):Bool:=(rawL l).all (hasP L)
def addE (room:Int) (L:List Gr) (g:Gr):Int :=
 if rightE g.p≠0 then rightE g.p else if hasP L g.id=true then 29 else if leadsAll L (g.l.map Bk.b3)=false then 31 else if room≤L.length then 27 else 0
theorem all_mem {zs ts:List Int} {f:Int→Bool} (h:∀ x,x∈zs↔x∈ts):zs.all f=ts.all f:=by
 rw[Bool.eq_iff_iff,List.all_eq_true,List.all_eq_true];exact⟨fun k x hx=>k x ((h x).2 hx),fun k x hx=>k x ((h x).1 hx)⟩
theorem Tb.put {w w1 w':World} {tb mb:Nat} {room:Int} {L:List Gr} (h:Tb w tb mb room L) (g':Gr) (k:Below w.heap.size w w1) (hb:BsF w.heap.size w1 g'.a g'.l) (hs:Sm g'.l) (ho:rightE g'.p=0) (hown:w'.ownsMap prog 3 Re mb (L.length+1) ((mD L).put (kL g'.id) (.held g'.h))) (hg:w1.grownBy w' (some mb)) :
 Tb w' tb mb room (putG g' L)∧w.grownBy w' (some mb):=by
 have h1:=h.below k;have hG:w.grownBy w' (some mb):=⟨hg.os.trans k.os,hg.tape.trans k.tape,hg.output.trans k.output,Nat.le_trans k.size hg.size,fun i hi hne=>(hg.block i (Nat.lt_of_lt_of_le hi k.size) hne).trans (k.block i hi)⟩
 rw[put_mD]at hown;refine⟨⟨?_,?_,Nat.lt_of_lt_of_le h1.lt hg.size,own_len hown,?_,srt_put h.srt⟩,hG⟩
 ·exact(World.cell?_of_block (a:=⟨tb,0,none⟩) (hg.block tb h1.lt (fun e=>by cases e;exact h.ne rfl))).trans h1.c0
 ·exact(World.cell?_of_block (a:=⟨tb,1,none⟩) (hg.block tb h1.lt (fun e=>by cases e;exact h.ne rfl))).trans h1.c1
 ·intro x hx;rcases mem_put.1 hx with rfl|⟨hx,_⟩
  ·have hne : ¬ InB x.a x.l mb:=fun hin=>by have:=hb.new hin;have:=h.mlt;omega
   exact(GW.mk hb.b hs ho hne).grown hg
  ·exact(h1.grp x hx).grown hg
end Gp
end Go.Proofs.YtgnihbdcdefdgaaGreatDoor

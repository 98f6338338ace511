import Derived.Test.YtgnihbdcdefdgaaGreatDoorX17
import Derived.Shelf.Spec.SlicesInsertGrow
import Derived.ArgAppend
import Derived.OwnWalk
set_option maxHeartbeats 8000000
set_option maxRecDepth 100000
set_option linter.unusedSimpArgs false
set_option linter.unusedVariables false
open Go.ChangeShapes Go.WideShapes Go.ChangeAt Go.RowKit
open Go.Proofs.Tryz
namespace Go.Proofs.YtgnihbdcdefdgaaGreatDoor
open Go.Lib
theorem run_copy10 (w:World) (ty:TypeId) (b o dLen dCap:Nat) (a:Addr) (sLen sCap:Nat) (cs:List Value) (hn:cs.length=Nat.min sLen dLen*10)
 (hsrc:∀ j v,cs[j]? = some v→w.cell? (a.add j)=some v) (ht:w.there b o cs.length) (h1:∀ v∈cs,v.oneCell'=true) :
 (Builtin.copy_ #[22,22] ty #[.slice (some ⟨b,o,none⟩) dLen dCap,.slice (some a) sLen sCap]).run prog w=.ok (goInt (Nat.min sLen dLen)) (w.setCells b o cs):=by
 have hl:=run_loadCells_list (P:=prog) w a cs hsrc;have hst:=run_storeCells_cells (P:=prog) b o cs 0 w (fun j hj=>by rw[Nat.add_zero];exact(ht j hj).1) (fun j hj=>by rw[Nat.add_zero];exact(ht j hj).2) h1;simp only[Nat.add_zero]at hst;obtain⟨i0,hi,_,hz1,_⟩:=info_parts infoFe;simp[Builtin.copy_,run_underlying underlying22,Builtin.lenOf,Builtin.firstCells,sizeOf,typeInfo,hi,hz1,← hn,hl,hst]
theorem put_mid {α:Type} (l:List α) (i:Nat) (y:α) (hi:i≤l.length):(l.take i++y::l.drop i).length=l.length+1:=by
 rw[List.length_append,List.length_cons,List.length_take,List.length_drop];omega
def Fresh (w:World) (v v':Value):Prop:=v'.ownBlock=v.ownBlock∨∃ g,v'.ownBlock=some g∧w.heap.size≤g
theorem fresh_of {w w':World} {e:TypeId} {size n:Nat} {v v':Value} {xs:List Value} (h:w'.ownsRow w.heap.size e size v' n xs) (hn:0<n):Fresh w v v':=by
 rcases h.2 with⟨_,h0⟩|⟨g,cap,cur,rfl,hb,_⟩
 ·omega
 ·exact .inr ⟨g,rfl,hb⟩
theorem insert_end (base:Nat) (v:Value) (l:List Fe) (y:Fe) (vb:Nat) (w:World) (hO:OwnE base w v l) (hl:l.length≤100000) (hb:base≤w.heap.size) (hY:w.heap[vb]? = some (.cells (feC y) 76 (0,0))) (hvb:v.ownBlock≠some vb) :
 Calls prog 54 #[v,.int .i64 l.length,.slice (some ⟨vb,0,none⟩) 1 1] w fun e w'=>∃ v',e=.returned v'∧OwnE base w' v' (l++[y])∧w.grownBy w' v.ownBlock∧Fresh w v v':=by
 obtain⟨i0,hi,hz0,hz1,hz2⟩:=info_parts infoFe;have hnews:∀ j u,(flatE [y])[j]? = some u→w.cell? ((⟨vb,0,none⟩:Addr).add j)=some u:=fun j u hj=>by
  rw[addP,Nat.zero_add,cell_of_row w vb j (feC y) _ (0,0) hY];simpa [flatE]using hj
 have hfl:(flatE [y]).length=1*10:=rfl;have hap:(flatE l++flatE [y])=flatE (l++[y]):=(flatE_append _ _).symm;have hlen:l.length+1=(l++[y]).length:=by simp
 obtain⟨a,cap,rfl,hform⟩:=OwnE.form2 hO;by_cases hroom:l.length+1≤cap
 ·obtain⟨g,rfl,hbg,hg,hnc,hcm⟩:∃ g,a=some ⟨g,0,none⟩∧base≤g∧g<w.heap.size∧l.length≤cap∧cap≤maxLen:=by
   rcases hform with⟨_,_,h⟩|h
   ·omega
   ·exact h
  unfold maxLen at hcm;have HO:Hid (OwnE base w (.slice (some ⟨g,0,none⟩) l.length cap) l):=hO;have HN:Hid (∀ j u,(flatE [y])[j]? = some u→w.cell? ((⟨vb,0,none⟩:Addr).add j)=some u):=hnews;have HA:Hid ((flatE l++flatE [y])=flatE (l++[y])∧l.length+1=(l++[y]).length):=(show _∧_ from⟨hap,hlen⟩)
  clear hO hnews hap hlen hform hY;go_enter func54,ntmps54;go_wp2_with (at_builtin;refine wpList_append_fits w rfl (.tmp 23) (.tmp 24) 22 rfl base 76 i0 10 underlying22 hi hz1 g l.length cap (flatE l) rfl HO.out ⟨vb,0,none⟩ 1 1 (flatE [y]) rfl rfl HN.out (flatE_one _) hroom ?_;intro w1 hown hgrow);go_ret;obtain⟨h1,h2⟩:=HA.out;exact⟨_,rfl,by unfold OwnE;rw[← h1,← h2];exact hown,hgrow,.inl rfl⟩
 ·have HO:Hid (∀ b,a=some b→∀ j u,(flatE l)[j]? = some u→w.cell? (b.add j)=some u):=(show ∀ b,_ from fun b e j u hj=>by
   subst e;rcases hform with⟨h,_⟩|⟨g,h,_⟩
   ·cases h
   ·cases h;exact hO.cells rfl j u hj)
  have HF:Hid (a=none→l.length=0∧cap=0):=(show _→_ from fun e=>by
   rcases hform with⟨_,h1,h2⟩|⟨g,h,_⟩
   ·subst h1;exact⟨rfl,h2⟩
   ·rw[e]at h;cases h)
  have hcm:cap≤9223372036854775807∧l.length≤cap:=by
   rcases hform with⟨_,h1,h2⟩|⟨g,h,_,_,h3,h4⟩
   ·subst h1;subst h2;simp
   ·unfold maxLen at h4;omega
  have hro:cap<l.length+1:=by omega
  have HN:Hid (∀ j u,(flatE [y])[j]? = some u→w.cell? ((⟨vb,0,none⟩:Addr).add j)=some u):=hnews;have HA:Hid ((flatE l++flatE [y])=flatE (l++[y])∧l.length+1=(l++[y]).length):=(show _∧_ from⟨hap,hlen⟩)
  obtain⟨hc1,hc2⟩:=hcm;clear hO hnews hap hlen hform hY;go_enter func54,ntmps54;go_wp2_with (at_builtin;refine wpList_append_grows w rfl (.tmp 23) (.tmp 24) 22 rfl 76 i0 zeroV 10 128 underlying22 hi hz0 hz1 hz2 rfl (by decide) a l.length cap (flatE l) rfl HF.out (flatE_length l) HO.out ⟨vb,0,none⟩ 1 1 (flatE [y]) rfl rfl HN.out (flatE_one _) hro (by unfold maxLen;omega) (by omega) ?_;intro v' w1 hown hgrow);go_ret;obtain⟨h1,h2⟩:=HA.out;exact⟨v',rfl,by unfold OwnE;rw[← h1,← h2];exact hown.mono hb,⟨hgrow.os,hgrow.tape,hgrow.output,hgrow.size,fun k hk _=>hgrow.block k hk (by simp)⟩,fresh_of hown (by omega)⟩
theorem there_of_row {w:World} {g:Nat} {cur:Array Value} {e:TypeId} (h:w.heap[g]? = some (.cells cur e (0,0))) (o n:Nat) (hn:o+n≤cur.size):w.there g o n:=fun j hj=>by
 refine⟨?_,frozen_of_row w g (o+j) cur e h⟩;rw[cell_of_row w g (o+j) cur e (0,0) h,Array.getElem?_eq_getElem (by omega)];rfl
theorem mid_row {α:Type} (c l:List α) (y:List α) (i n k:Nat) (hl:l.length=n*k) (hy:y.length=k) (hi:i≤n) (hc:c.length=n*k+k) (hp:c.take (i*k)=l.take (i*k)) :
 ((c.take (i*k)++y++c.drop (i*k+y.length)).take (i*k+k)++l.drop (i*k)++(c.take (i*k)++y++c.drop (i*k+y.length)).drop (i*k+k+(l.drop (i*k)).length))=l.take (i*k)++y++l.drop (i*k):=by
 have hik:i*k≤n*k:=Nat.mul_le_mul_right k hi;have l1:(c.take (i*k)++y).length=i*k+k:=by rw[List.length_append,List.length_take];omega
 rw[List.take_append,l1,Nat.sub_self,List.take_zero,List.append_nil,List.take_of_length_le (by omega),hp];have:(c.take (i*k)++y++c.drop (i*k+y.length)).length=n*k+k:=by rw[List.length_append,l1,List.length_drop];omega
 rw[hp]at this;have hn:(l.take (i*k)++y++c.drop (i*k+y.length)).drop (i*k+k+(l.drop (i*k)).length)=[]:=List.drop_eq_nil_of_le (by rw[this,List.length_drop];omega);rw[hn,List.append_nil]
theorem insert_grow (base:Nat) (g cap:Nat) (l:List Fe) (i:Nat) (hi:i<l.length) (y:Fe) (vb:Nat) (w:World) (hO:OwnE base w (.slice (some ⟨g,0,none⟩) l.length cap) l) (hl:l.length≤100000) (hb:base≤w.heap.size) (hroom:cap<l.length+1) (hnc:l.length≤cap) (hY:w.heap[vb]? = some (.cells (feC y) 76 (0,0))) :
 Calls prog 54 #[.slice (some ⟨g,0,none⟩) l.length cap,.int .i64 i,.slice (some ⟨vb,0,none⟩) 1 1] w fun e w'=>∃ v',e=.returned v'∧OwnE base w' v' (l.take i++y::l.drop i)∧w.grownBy w' none∧∃ g',v'.ownBlock=some g'∧w.heap.size≤g':=by
 obtain⟨i0,hi0,hz0,hz1,hz2⟩:=info_parts infoFe;have hold:(Builtin.firstCells i0.size i (.slice (some ⟨g,0,none⟩) i cap)).run prog w.drew=.ok (flatE (l.take i)).toArray w.drew:=by
  rw[hz1];exact run_firstCells_some w.drew 10 i ⟨g,0,none⟩ i cap (flatE (l.take i)) (by rw[flatE_length,List.length_take];omega) (fun j v hj=>by
   rw[← flatE_take,List.getElem?_take]at hj;split at hj
   ·exact hO.cells rfl j v hj
   ·cases hj)
 have hik:i+(l.length+1-i)=l.length+1:=by omega
 have hkk:(l.length:Int)+1-(i:Int)=((l.length+1-i:Nat):Int):=by omega
 obtain⟨G,hG⟩:∃ G,G=grownCap w (l.length+1) cap 76:=⟨_,rfl⟩
 obtain⟨ROW,hROW⟩:∃ ROW:Array Value,ROW=(flatE (l.take i)).toArray++Builtin.zeroCells zeroV.cells (l.length+1-i)++Builtin.zeroCells zeroV.cells (G-(l.length+1)):=⟨_,rfl⟩
 have hGn:l.length+1≤G:=by rw[hG];exact grownCap_ge w _ _ _
 have hGm:G≤maxLen:=by rw[hG];exact grownCap_le_maxLen w _ _ _ (by unfold maxLen;omega)
 have hRs:ROW.size=G*10:=by
  rw[hROW];simp only[Array.size_append,size_zeroCells,List.size_toArray,flatE_length,List.length_take];have:zeroV.cells.size=10:=rfl;rw[this,Nat.min_eq_left (by omega)];omega
 obtain⟨W1,hW1⟩:∃ W1,w.drew.alloc (.cells ROW 76)=W1:=⟨_,rfl⟩
 have hrz:∀ ty,(Builtin.append_ #[22,3] ty #[.slice (some ⟨g,0,none⟩) i cap,.int .i64 ((l.length:Int)+1-(i:Int))]).run prog w=.ok (.slice (some ⟨w.heap.size,0,none⟩) (l.length+1) G) W1:=fun ty=>by
  have h:=Lib.run_append_grow_zeros w 22 3 ty 76 i0 _ .i64 .i64 underlying22 underlying3 hi0 hz0 (some ⟨g,0,none⟩) i cap (flatE (l.take i)) hold (l.length+1-i) (by omega) (by omega) (by omega) (by omega) (by rw[hz2];omega) (by rw[hz2,hik];exact growslice_fits hroom (by omega));rw[hik]at h;rw[hkk,← hW1,hROW,hG];exact h
 have r1:W1.heap[w.heap.size]? = some (.cells ROW 76 (0,0)):=by rw[← hW1];exact heap_alloc_new w.drew _
 have b1':∀ k,k<w.heap.size→(w.drew.alloc (.cells ROW 76)).heap[k]? = w.heap[k]?:=fun k hk=>heap_alloc_old w.drew _ hk;have b1:∀ k,k<w.heap.size→W1.heap[k]? = w.heap[k]?:=fun k hk=>by rw[← hW1];exact b1' k hk
 have z1:W1.heap.size=w.heap.size+1:=by rw[← hW1];simp
 have hgw:g<w.heap.size:=(hO.lt g rfl).2;have hvw:vb<w.heap.size:=(Array.getElem?_eq_some_iff.1 hY).1;obtain⟨W2,hW2⟩:∃ W2,W1.setCells w.heap.size (i*10) (feC y).toList=W2:=⟨_,rfl⟩
 obtain⟨R2,r2,q2⟩:=cells_block (feC y).toList (i*10) W1 w.heap.size ROW _ r1 (by rw[hRs];simp;omega);rw[hW2]at r2;have b2:∀ k,k<w.heap.size→W2.heap[k]? = w.heap[k]?:=fun k hk=>by rw[← hW2];exact((only_cells w.heap.size _ _ _ _ (Only.refl _ W1)).block k (by omega)).trans (b1 k hk)
 have hR2:R2.size=G*10:=by
  have:=congrArg List.length q2;simp at this;rw[this];omega
 have hfl:(flatE (l.drop i)).length=(l.length-i)*10:=by rw[flatE_length,List.length_drop]
 obtain⟨W3,hW3⟩:∃ W3,W2.setCells w.heap.size ((i+1)*10) (flatE (l.drop i))=W3:=⟨_,rfl⟩
 obtain⟨R3,r3,q3⟩:=cells_block (flatE (l.drop i)) ((i+1)*10) W2 w.heap.size R2 _ r2 (by rw[hR2,hfl];omega);rw[hW3]at r3;have hR3:R3.size=G*10:=by
  have:=congrArg List.length q3;simp[hfl]at this;rw[this];omega
 have HOW:Hid (OwnE base W3 (.slice (some ⟨w.heap.size,0,none⟩) (l.length+1) G) (l.take i++y::l.drop i)):=(show World.ownsRow _ _ _ _ _ _ _ from by
  rw[put_mid l i y (by omega)];refine⟨by rw[flatE_length,put_mid l i y (by omega)],.inr ⟨w.heap.size,G,R3,rfl,hb,r3,hGn,hGm,hR3,?_⟩⟩;have hRl:ROW.toList.length=G*10:=by simpa using hRs
  have t1:ROW.toList.take (i*10)=(flatE l).take (i*10):=by
   rw[hROW,flatE_take];simp only[Array.toList_append,List.append_assoc];rw[List.take_append_of_le_length (by rw[flatE_length,List.length_take];omega),List.take_of_length_le (by rw[flatE_length,List.length_take];omega)]
  have key:=mid_row (ROW.toList.take ((l.length+1)*10)) (flatE l) (feC y).toList i l.length 10 (flatE_length l) rfl (by omega) (by rw[List.length_take,hRl];omega) (by rw[List.take_take,Nat.min_eq_left (by omega),t1]);rw[flatE_append,flatE_cons,← flatE_take,← flatE_drop,← List.append_assoc,← key];have e1:(feC y).toList.length=10:=rfl;rw[q3,flatE_drop]at *
  rw[take_mid R2.toList (flatE (l.drop i)) ((i+1)*10) ((l.length+1)*10) (by rw[hfl];omega) (by simp[hR2];omega),q2,take_mid ROW.toList (feC y).toList (i*10) ((l.length+1)*10) (by rw[e1];omega) (by omega)];rw[show(i+1)*10=i*10+10 by omega])
 have HGB:Hid (w.grownBy W3 none):=(show World.grownBy _ _ _ by
  have o1:Only w.heap.size W1 W3:=by rw[← hW3,← hW2];exact only_cells _ _ _ _ _ (only_cells _ _ _ _ _ (Only.refl _ _))
  have g1:w.grownBy W1 none:=by rw[← hW1];exact⟨rfl,rfl,rfl,by simp,fun k hk _=>b1' k hk⟩
  exact gby_only g1 o1 (.inl (Nat.le_refl _)))
 have hcpA:∀ ty dc,(Builtin.copy_ #[22,22] ty #[.slice (some ⟨w.heap.size,i*10,none⟩) (l.length+1-i) dc,.slice (some ⟨vb,0,none⟩) 1 1]).run prog W1=.ok (goInt 1) W2:=fun ty dc=>by
  have h:=run_copy10 W1 ty w.heap.size (i*10) (l.length+1-i) dc ⟨vb,0,none⟩ 1 1 (feC y).toList (by rw[show Nat.min 1 (l.length+1-i)=1 by simp only[Nat.min_def];split<;>omega];rfl) (fun j v hj=>by
   rw[addP,Nat.zero_add,cell_of_row W1 vb j (feC y) 76 (0,0) ((b1 vb hvw).trans hY)];simpa using hj) (there_of_row r1 _ _ (by rw[hRs];simp;omega)) (fun v hv=>flatE_one [y] v (by simpa [flatE]using hv))
  rw[hW2,show Nat.min 1 (l.length+1-i)=1 by simp only[Nat.min_def];split<;>omega]at h;exact h
 have hcpB:∀ ty dc sc,(Builtin.copy_ #[22,22] ty #[.slice (some ⟨w.heap.size,(i+1)*10,none⟩) (l.length+1-(i+1)) dc,.slice (some ⟨g,i*10,none⟩) (l.length-i) sc]).run prog W2.drew=.ok (goInt ((l.length-i:Nat):Int)) W3.drew:=fun ty dc sc=>by
  have hmn:Nat.min (l.length-i) (l.length+1-(i+1))=l.length-i:=by simp only[Nat.min_def];split<;>omega
  have h:=run_copy10 W2.drew ty w.heap.size ((i+1)*10) (l.length+1-(i+1)) dc ⟨g,i*10,none⟩ (l.length-i) sc (flatE (l.drop i)) (by rw[hmn,hfl]) (fun j v hj=>by
   rw[addP];have hc:w.cell? ⟨g,i*10+j,none⟩=some v:=by
    have:=hO.cells (g:=g) rfl (i*10+j) v (by rw[← flatE_drop,List.getElem?_drop]at hj;exact hj);rwa [addP,Nat.zero_add]at this
   rw[← hc];exact World.cell?_of_block (w:=w) (b2 g hgw)) (there_of_row (w:=W2.drew) r2 _ _ (by rw[hR2,hfl];omega)) (flatE_one _)
  rw[hmn,← drew_setCells,hW3]at h;exact h
 have mixed:prog.follows .mixedOrders=true:=by kernel_rfl
 have hw1:IntKind.i64.wrap ((i:Int)+1)=(i:Int)+1:=by rw[IntKind.wrap_i64];omega
 have hz3:(cap:Int)<(l.length:Int)+1:=by omega
 have hzi : ¬ ((i:Int)=(l.length:Int)):=by omega
 have hzb:((i:Int)==(l.length:Int))=false:=beq_eq_false_iff_ne.2 hzi;have hGi : ¬ (G=i):=by omega
 have hGi1 : ¬ (G=i+1):=by omega
 have hci : ¬ (cap=i):=by omega
 have hin:i≤l.length:=by omega
 have hint:(i:Int)≤(l.length:Int):=by omega
 have htn:((i:Int)+1).toNat=i+1:=by omega
 have hle1:(i:Int)+1≤(l.length:Int)+1:=by omega
 have hb0:(0:Int)≤(i:Int)+1:=by omega
 have hG63:G≤9223372036854775807:=by unfold maxLen at hGm;omega
 have hc63:cap≤100001:=by omega
 clear hold hROW hG hRs r1 b1' b1 hW1 hW2 r2 q2 b2 hW3 r3 q3 hR2 hR3 hGm hfl hO hY hik hkk;go_enter func54,ntmps54
 go_wp2_with (first
  | (at_builtin;refine Lib.wpList_append_run _ rfl _ _ _ _ rfl _ _ rfl rfl _ _ (hrz _) ?_)
  | (at_builtin;refine wpList_copy_runI _ rfl _ _ 22 22 rfl _ _ rfl rfl (hcpA _ _) ?_))
 go_region_law_o (refine step_copy_runI rfl _ _ 22 22 rfl (.slice (some ⟨w.heap.size,(i+1)*10,none⟩) (l.length+1-(i+1)) (G-(i+1))) (.slice (some ⟨g,i*10,none⟩) (l.length-i) (cap-i)) (by simp[Act.eval,Act.put]) (by simp[Act.eval,Act.put]) (hcpB _ _ _) ?_)
 go_wp2;go_ret;have hg:=HGB.out;exact⟨_,rfl,HOW.out,⟨hg.os,hg.tape,hg.output,hg.size,hg.block⟩,w.heap.size,rfl,Nat.le_refl _⟩
theorem room_row {α:Type} (c l y:List α) (i n k:Nat) (hl:l.length=n*k) (hy:y.length=k) (hi:i≤n) (hc:n*k+k≤c.length) (hp:c.take (n*k)=l) :
 ((c.take (i*k+k)++l.drop (i*k)++c.drop (i*k+k+(l.drop (i*k)).length)).take (i*k)++y++(c.take (i*k+k)++l.drop (i*k)++c.drop (i*k+k+(l.drop (i*k)).length)).drop (i*k+k)).take (n*k+k)=l.take (i*k)++y++l.drop (i*k):=by
 have hik:i*k≤n*k:=Nat.mul_le_mul_right k hi;have c1:(c.take (i*k+k)).length=i*k+k:=by rw[List.length_take];omega
 have d1:(c.take (i*k+k)++l.drop (i*k)++c.drop (i*k+k+(l.drop (i*k)).length)).take (i*k)=l.take (i*k):=by
  rw[List.append_assoc,List.take_append_of_le_length (by omega),List.take_take,Nat.min_eq_left (by omega),← hp,List.take_take,Nat.min_eq_left hik]
 have d2:(c.take (i*k+k)++l.drop (i*k)++c.drop (i*k+k+(l.drop (i*k)).length)).drop (i*k+k)=l.drop (i*k)++c.drop (i*k+k+(l.drop (i*k)).length):=by
  rw[List.append_assoc,List.drop_append,List.drop_eq_nil_of_le (by omega),c1,Nat.sub_self,List.drop_zero,List.nil_append]
 rw[d1,d2,← List.append_assoc];have e1:(l.take (i*k)++y++l.drop (i*k)).length=n*k+k:=by rw[List.length_append,List.length_append,List.length_take,List.length_drop];omega
 rw[← e1,List.take_left]
theorem insert_room (base:Nat) (g cap:Nat) (l:List Fe) (i:Nat) (hi:i<l.length) (y:Fe) (vb:Nat) (w:World) (hO:OwnE base w (.slice (some ⟨g,0,none⟩) l.length cap) l) (hl:l.length≤100000) (hroom:l.length+1≤cap) (hY:w.heap[vb]? = some (.cells (feC y) 76 (0,0))) (hvb:vb≠g) :
 Calls prog 54 #[.slice (some ⟨g,0,none⟩) l.length cap,.int .i64 i,.slice (some ⟨vb,0,none⟩) 1 1] w fun e w'=>∃ v',e=.returned v'∧OwnE base w' v' (l.take i++y::l.drop i)∧w.grownBy w' (some g)∧v'.ownBlock=some g:=by
 rcases hO.2 with⟨h',_⟩|⟨g',cap',cur,h',hb,hg,hnc,hcm,hcs,htake⟩
 ·simp at h'
 simp only[Value.slice.injEq,Option.some.injEq,Addr.mk.injEq,and_true,true_and]at h';obtain⟨rfl,rfl⟩:=h';have hfl:(flatE (l.drop i)).length=(l.length-i)*10:=by rw[flatE_length,List.length_drop]
 have hcl:cur.toList.length=cap*10:=by simpa using hcs
 have hgw:g<w.heap.size:=(hO.lt g rfl).2;have hvw:vb<w.heap.size:=(Array.getElem?_eq_some_iff.1 hY).1;obtain⟨W2,hW2⟩:∃ W2,w.setCells g ((i+1)*10) (flatE (l.drop i))=W2:=⟨_,rfl⟩
 obtain⟨R2,r2,q2⟩:=cells_block (flatE (l.drop i)) ((i+1)*10) w g cur _ hg (by rw[hcs,hfl];omega);rw[hW2]at r2;have o2:Only g w W2:=by rw[← hW2];exact only_cells _ _ _ _ _ (Only.refl _ _)
 have hR2:R2.size=cap*10:=by
  have:=congrArg List.length q2;simp[hfl]at this;rw[this];omega
 obtain⟨W3,hW3⟩:∃ W3,W2.drew.setCells g (i*10) (feC y).toList=W3:=⟨_,rfl⟩
 obtain⟨R3,r3,q3⟩:=cells_block (feC y).toList (i*10) W2.drew g R2 _ r2 (by rw[hR2];simp;omega);rw[hW3]at r3;have hR3:R3.size=cap*10:=by
  have:=congrArg List.length q3;simp at this;rw[this];omega
 have o3:Only g W2.drew W3:=by rw[← hW3];exact only_cells _ _ _ _ _ (Only.refl _ _)
 have HOW:Hid (OwnE base W3 (.slice (some ⟨g,0,none⟩) (l.length+1) cap) (l.take i++y::l.drop i)):=(show World.ownsRow _ _ _ _ _ _ _ from by
  rw[put_mid l i y (by omega)];refine⟨by rw[flatE_length,put_mid l i y (by omega)],.inr ⟨g,cap,R3,rfl,hb,r3,by omega,hcm,hR3,?_⟩⟩;have e1:(feC y).toList.length=10:=rfl;have key:=room_row cur.toList (flatE l) (feC y).toList i l.length 10 (flatE_length l) e1 (by omega) (by omega) htake;rw[flatE_drop]at key;rw[flatE_append,flatE_cons,← flatE_take,← List.append_assoc,q3,q2,e1,show(i+1)*10=i*10+10 by omega,show(l.length+1)*10=l.length*10+10 by omega];exact key)
 have HGB:Hid (w.grownBy W3 (some g)):=(show World.grownBy _ _ _ by
  have g1:w.grownBy W2.drew (some g):=by
   have h:=gby_only (World.grownBy.refl w (some g)) o2 (.inr rfl);exact⟨h.os,h.tape,h.output,h.size,h.block⟩
  exact gby_only g1 o3 (.inr rfl))
 have hcp1:∀ ty dc sc,(Builtin.copy_ #[22,22] ty #[.slice (some ⟨g,(i+1)*10,none⟩) (l.length+1-(i+1)) dc,.slice (some ⟨g,i*10,none⟩) (l.length+1-i) sc]).run prog w.drew=.ok (goInt ((l.length-i:Nat):Int)) W2.drew:=fun ty dc sc=>by
  have hmn:Nat.min (l.length+1-i) (l.length+1-(i+1))=l.length-i:=by simp only[Nat.min_def];split<;>omega
  have h:=run_copy10 w.drew ty g ((i+1)*10) (l.length+1-(i+1)) dc ⟨g,i*10,none⟩ (l.length+1-i) sc (flatE (l.drop i)) (by rw[hmn,hfl]) (fun j v hj=>by
   rw[addP];have:=hO.cells (g:=g) rfl (i*10+j) v (by rw[← flatE_drop,List.getElem?_drop]at hj;exact hj);rwa [addP,Nat.zero_add]at this) (there_of_row (w:=w.drew) hg _ _ (by rw[hcs,hfl];omega)) (flatE_one _)
  rw[hmn,← drew_setCells,hW2]at h;exact h
 have hcp2:∀ ty dc,(Builtin.copy_ #[22,22] ty #[.slice (some ⟨g,i*10,none⟩) (l.length+1-i) dc,.slice (some ⟨vb,0,none⟩) 1 1]).run prog W2.drew=.ok (goInt 1) W3:=fun ty dc=>by
  have h:=run_copy10 W2.drew ty g (i*10) (l.length+1-i) dc ⟨vb,0,none⟩ 1 1 (feC y).toList (by rw[show Nat.min 1 (l.length+1-i)=1 by simp only[Nat.min_def];split<;>omega];rfl) (fun j v hj=>by
   rw[addP,Nat.zero_add,cell_of_row W2.drew vb j (feC y) 76 (0,0) ((o2.block vb hvb).trans hY)];simpa using hj) (there_of_row (w:=W2.drew) r2 _ _ (by rw[hR2];simp;omega)) (fun v hv=>flatE_one [y] v (by simpa [flatE]using hv))
  rw[hW3,show Nat.min 1 (l.length+1-i)=1 by simp only[Nat.min_def];split<;>omega]at h;exact h
 have hov:∀ lb cb,(callFunc 95 #[.slice (some ⟨vb,0,none⟩) 1 1,.slice (some ⟨g,(i+1)*10,none⟩) lb cb]).run prog w=.ok (.value (.bool false)) w:=fun lb cb=>by
  have hsa:w.shape? vb=some (76,10):=by simp[World.shape?,hY]
  have hsb:w.shape? g=some (76,cur.size):=by simp[World.shape?,hg]
  rw[run_callFunc_extern func95 (by kernel_rfl) (by kernel_rfl) (by kernel_rfl) (e:=Extern.SlicesOverlaps.overlaps #[22,22] #[4]) (by kernel_rfl),
   Lib.run_overlaps_apart w 22 4 76 underlying22 10 Tryz.sizeOf76 ⟨vb,0,none⟩ ⟨g,(i+1)*10,none⟩ 1 1 lb cb hvb 76 76 10 cur.size hsa hsb (by omega) (frozen_of_row w vb 0 _ _ hY) (frozen_of_row w vb 10 _ _ hY)]
  rfl
 have mixed:prog.follows .mixedOrders=true:=by kernel_rfl
 have hw1:IntKind.i64.wrap ((i:Int)+1)=(i:Int)+1:=by rw[IntKind.wrap_i64];omega
 have hz3 : ¬ (cap:Int)<(l.length:Int)+1:=by omega
 have hzi : ¬ ((i:Int)=(l.length:Int)):=by omega
 have hzb:((i:Int)==(l.length:Int))=false:=beq_eq_false_iff_ne.2 hzi;have hci : ¬ (cap=i):=by omega
 have hci1 : ¬ (cap=i+1):=by omega
 have hin:i≤l.length:=by omega
 have hint:(i:Int)≤(l.length:Int):=by omega
 have hint1:(i:Int)≤(l.length:Int)+1:=by omega
 have htn:((i:Int)+1).toNat=i+1:=by omega
 have hle1:(i:Int)+1≤(l.length:Int)+1:=by omega
 have hb0:(0:Int)≤(i:Int)+1:=by omega
 have hro:(l.length:Int)+1≤(cap:Int):=by omega
 have hc63:cap≤9223372036854775807:=by unfold maxLen at hcm;omega
 clear htake hcs hg hW2 r2 q2 hW3 r3 q3 hR2 hR3 hfl hO hY o2 o3 hcm hcl;go_enter func54,ntmps54;go_wp2_with (simp only[hov]);go_region_law_o (refine step_copy_runI rfl _ _ 22 22 rfl (.slice (some ⟨g,(i+1)*10,none⟩) (l.length+1-(i+1)) (cap-(i+1))) (.slice (some ⟨g,i*10,none⟩) (l.length+1-i) (cap-i)) (by simp[Act.eval,Act.put]) (by simp[Act.eval,Act.put]) (hcp1 _ _ _) ?_)
 go_wp2_with (at_builtin;refine wpList_copy_runI _ rfl _ _ 22 22 rfl _ _ rfl rfl (hcp2 _ _) ?_);go_ret;exact⟨_,rfl,HOW.out,HGB.out,rfl⟩
theorem insert_any (base:Nat) (v:Value) (l:List Fe) (i:Nat) (hi:i≤l.length) (y:Fe) (vb:Nat) (w:World) (hO:OwnE base w v l) (hl:l.length≤100000) (hb:base≤w.heap.size) (hY:w.heap[vb]? = some (.cells (feC y) 76 (0,0))) (hvb:v.ownBlock≠some vb) :
 Calls prog 54 #[v,.int .i64 i,.slice (some ⟨vb,0,none⟩) 1 1] w fun e w'=>∃ v',e=.returned v'∧OwnE base w' v' (l.take i++y::l.drop i)∧w.grownBy w' v.ownBlock∧Fresh w v v':=by
 by_cases he:i=l.length
 ·subst he;have:=insert_end base v l y vb w hO hl hb hY hvb;rwa [List.take_length,List.drop_length]
 ·have hlt:i<l.length:=by omega
  obtain⟨g,cap,rfl,hbg,hg,hnc,hcm⟩:=OwnE.form hO (by intro e;subst e;cases hlt);by_cases hroom:l.length+1≤cap
  ·exact(insert_room base g cap l i hlt y vb w hO hl hroom hY (fun e=>hvb (by rw[e];rfl))).mono fun _ _ ⟨v',h1,h2,h3,h4⟩=>⟨v',h1,h2,h3,.inl h4⟩
  ·exact(insert_grow base g cap l i hlt y vb w hO hl hb (by omega) hnc hY).mono fun _ _ ⟨v',h1,h2,h3,h4⟩=>⟨v',h1,h2,⟨h3.os,h3.tape,h3.output,h3.size,fun k hk _=>h3.block k hk (by simp)⟩,.inr h4⟩
def priB (n:Int):Bool:=decide (n<0)||decide (65535<n)
def wrongE (x:Fp):Int:=if rightX x.sp≠0 then rightX x.sp else if Mt.rightE x.lt≠0 then Mt.rightE x.lt else if priB x.pri=true then 1 else 0
theorem wrong_tab {x:Fp} (h:wrongE x=0):0≤x.tab∧x.tab<8:=by
 unfold wrongE at h;split at h
 ·contradiction
 ·rename_i h1;have h2:rightX x.sp=0:=by simpa using h1
  by_cases ht:tabB x.tab=true
  ·unfold tabB at ht;simpa using ht
  ·have:rightX x.sp=26:=by unfold rightX;rw[if_pos (by simpa [Fp.sp]using ht)]
   omega
theorem wrong_len {x:Fp} (h:wrongE x=0):x.lt.length≤9∧x.la.length≤32∧x.lw.length≤32:=by
 unfold wrongE at h;split at h
 ·contradiction
 ·rename_i h1;have h2:rightX x.sp=0:=by simpa using h1
  split at h
  ·contradiction
  ·rename_i h3;have h4:Mt.rightE x.lt=0:=by simpa using h3
   have e32:∀ l:List A,encodeE l=0→l.length≤32:=fun l hl=>by
    unfold encodeE at hl;split at hl
    ·split at hl
     ·assumption
     ·omega
    ·omega
   refine⟨Mt.right_short _ h4,?_⟩;unfold rightX at h2;split at h2
   ·omega
   ·split at h2
    ·contradiction
    ·rename_i h5;split at h2
     ·contradiction
     ·rename_i h6;exact⟨e32 _ (by simpa [Fp.sp]using h5),e32 _ (by simpa [Fp.sp]using h6)⟩
theorem FB.fw {w:World} {x:Fe} (h:FB w x) (h0:wrongE x.p=0):FW w x:=by
 obtain⟨h1,h2,h3⟩:=wrong_len h0;exact⟨h.t,h.a,h.w,by omega,by omega,by omega,h.ct⟩
structure Fl (w:World) (f:Nat) (S:Nat→Prop) (room:Int) (V:Nat→Value) (L:Nat→List Fe):Prop where
 rm:w.cell? ⟨f,0,none⟩=some (.int .i64 room)
 cv:∀ t,t<8→w.cell? ⟨f,1+t,none⟩=some (V t)
 fz:∀ t,w.frozen? ⟨f,t,none⟩=false
 row:∀ t,t<8→OwnE 0 w (V t) (L t)
 sf:S f
 sr:∀ t,t<8→∀ g,(V t).ownBlock=some g→S g∧g≠f
 ap:∀ t u,t<8→u<8→t≠u→∀ g,(V t).ownBlock=some g→(V u).ownBlock≠some g
 en:∀ t,t<8→∀ x∈L t,FW w x∧∀ b,InF x b→S b∧b≠f∧∀ u,u<8→(V u).ownBlock≠some b
 lt:∀ b,S b→b<w.heap.size
 lo:∀ b,S b→2≤b
 r1:1≤room
 r2:room≤256
 nm:∀ t,t<8→((L t).length:Int)≤room
structure Kept (S:Nat→Prop) (w w':World):Prop where
 os:w'.os=w.os
 tape:w'.tape=w.tape
 output:w'.output=w.output
 size:w.heap.size≤w'.heap.size
 block:∀ b,b<w.heap.size→¬ S b→w'.heap[b]? = w.heap[b]?
theorem Kept.of_below {S:Nat→Prop} {w w':World} (g:Below w.heap.size w w'):Kept S w w':=⟨g.os,g.tape,g.output,g.size,fun b hb _=>g.block b hb⟩
theorem Kept.trans {S S':Nat→Prop} {w a b:World} (h:Kept S w a) (g:Kept S' a b) (hs:∀ k,S' k→S k∨w.heap.size≤k):Kept S w b :=
 ⟨g.os.trans h.os,g.tape.trans h.tape,g.output.trans h.output,Nat.le_trans h.size g.size,fun k hk hn=>(g.block k (Nat.lt_of_lt_of_le hk h.size) (fun h'=>by
   rcases hs k h' with h2|h2
   ·exact hn h2
   ·omega)).trans (h.block k hk hn)⟩
theorem Kept.below {S:Nat→Prop} {w w':World} {B:Nat} (h:Kept S w w') (hB:B≤w.heap.size) (hs:∀ k,S k→B≤k):Below B w w' :=
 ⟨h.os,h.tape,h.output,h.size,fun k hk=>h.block k (by omega) (fun h'=>by have:=hs k h';omega)⟩
theorem Fl.below {w w':World} {f:Nat} {S:Nat→Prop} {room:Int} {V:Nat→Value} {L:Nat→List Fe} (h:Fl w f S room V L) (hz:w.heap.size≤w'.heap.size) (g:∀ b,S b→w'.heap[b]? = w.heap[b]?):Fl w' f S room V L:=by
 have hc:∀ o,w'.cell? ⟨f,o,none⟩=w.cell? ⟨f,o,none⟩:=fun o=>World.cell?_of_block (w:=w) (g f h.sf);have hf:∀ o,w'.frozen? ⟨f,o,none⟩=w.frozen? ⟨f,o,none⟩:=fun o=>World.frozen?_of_block (w:=w) (g f h.sf);refine⟨(hc _).trans h.rm,fun t ht=>(hc _).trans (h.cv t ht),fun t=>(hf _).trans (h.fz t),?_,h.sf,h.sr,h.ap,?_,fun b hb=>Nat.lt_of_lt_of_le (h.lt b hb) hz,h.lo,h.r1,h.r2,h.nm⟩
 ·intro t ht;have hr:=h.row t ht;refine⟨hr.1,?_⟩;rcases hr.2 with hn|⟨g',cap,cur,hv,hb,hgg,rest⟩
  ·exact .inl hn
  ·exact .inr ⟨g',cap,cur,hv,hb,(g g' (h.sr t ht g' (by rw[hv];rfl)).1).trans hgg,rest⟩
 ·intro t ht x hx;obtain⟨h1,h2⟩:=h.en t ht x hx;exact⟨h1.stay hz (fun b hb _=>g b (h2 b hb).1),h2⟩
def Fs (w:World) (f:Nat) (S:Nat→Prop) (room:Int) (P:Nat→List Fp):Prop:=∃ V L,Fl w f S room V L∧∀ t,t<8→(L t).map Fe.p=P t
theorem Fs.below {w w':World} {f:Nat} {S:Nat→Prop} {room:Int} {P:Nat→List Fp} (h:Fs w f S room P) (g:Below w.heap.size w w'):Fs w' f S room P:=by
 obtain⟨V,L,h,hp⟩:=h;exact⟨V,L,h.below g.size (fun b hb=>g.block b (h.lt b hb)),hp⟩
theorem Fs.lt {w:World} {f:Nat} {S:Nat→Prop} {room:Int} {P:Nat→List Fp} (h:Fs w f S room P):∀ b,S b→b<w.heap.size:=by
 obtain⟨V,L,h,_⟩:=h;exact h.lt
theorem Fs.lo {w:World} {f:Nat} {S:Nat→Prop} {room:Int} {P:Nat→List Fp} (h:Fs w f S room P):∀ b,S b→2≤b:=by
 obtain⟨V,L,h,_⟩:=h;exact h.lo
theorem new_no (room:Int) (w:World) (h:room<1∨256<room):Calls prog 26 #[.int .i64 room] w fun e w'=>e=.returned (.tuple #[.pointer none,.int .i64 1])∧w'=w:=by
 rcases h with h|h
 ·go_enter func26,ntmps26;go_wp2;go_ret2
  exact⟨rfl,rfl⟩
 ·have h1 : ¬ room<1:=by omega
  go_enter func26,ntmps26;go_wp2;go_ret2
  exact⟨rfl,rfl⟩
theorem new_yes (room:Int) (w:World) (h1:1≤room) (h2:room≤256) (hd:Cd w):Calls prog 26 #[.int .i64 room] w fun e w'=>e=.returned (.tuple #[.pointer (some ⟨w.heap.size,0,none⟩),.int .i64 0])∧Fs w' w.heap.size (fun b=>b=w.heap.size) room (fun _=>[])∧Below w.heap.size w w':=by
 have hp:=hd.pos;go_enter func26,ntmps26;go_wp2;go_ret2
 refine⟨rfl,⟨fun _=>.slice none 0 0,fun _=>[],⟨by simp,?_,by simp,fun t _=>World.ownsRow_nil _ _ _ _,rfl,fun t _ g hg=>by simp[Value.ownBlock]at hg,fun t u _ _ _ g hg=>by simp[Value.ownBlock]at hg,fun t _ x hx=>by simp at hx,fun b hb=>by rw[hb];simp,fun b hb=>by rw[hb];omega,h1,h2,fun t _=>by simp;omega⟩,fun t _=>rfl⟩,by go_grown⟩;intro t ht;have:t=0∨t=1∨t=2∨t=3∨t=4∨t=5∨t=6∨t=7:=by omega
 rcases this with rfl|rfl|rfl|rfl|rfl|rfl|rfl|rfl<;>simp
theorem entries_out (f:Nat) (t:Int) (w:World) (h:t<0∨8≤t):Calls prog 42 #[.pointer (some ⟨f,0,none⟩),.int .i64 t] w fun e w'=>e=.returned (.slice none 0 0)∧w'=w:=by
 rcases h with h|h
 ·go_enter func42,ntmps42;go_wp2;go_ret;exact⟨rfl,rfl⟩
 ·have h1 : ¬ t<0:=by omega
  go_enter func42,ntmps42;go_wp2;go_ret;exact⟨rfl,rfl⟩
theorem entries_in (f:Nat) (t:Nat) (v:Value) (w:World) (h:t<8) (a:Option Addr) (n c:Nat) (hv:w.cell? ⟨f,1+t,none⟩=some (.slice a n c)):Calls prog 42 #[.pointer (some ⟨f,0,none⟩),.int .i64 t] w fun e w'=>e=.returned (.slice a n c)∧w'=w:=by
 have h1 : ¬ ((t:Int)<0):=by omega
 have h2 : ¬ (8≤(t:Int)):=by omega
 go_enter func42,ntmps42;go_wp2;go_ret;exact⟨rfl,rfl⟩
theorem wrong_nil (x:Fe) (w:World):Calls prog 49 #[.pointer none,feV x] w fun e w'=>e=.returned (.int .i64 2)∧Below w.heap.size w w':=by
 go_enter func49,ntmps49;go_wp2;go_ret;exact⟨rfl,by go_grown⟩
theorem wrong_any (f:Nat) (x:Fe) (w:World) (hx:FB w x) (hd:Cd w):Calls prog 49 #[.pointer (some ⟨f,0,none⟩),feV x] w fun e w'=>e=.returned (.int .i64 (wrongE x.p))∧Below w.heap.size w w':=by
 have g0:Below w.heap.size w (fx w x):=by go_grown
 have HI:Hid (Calls prog 89 #[feV x] (fx w x) fun e w'=>e=.returned (.int .i64 (rightX x.p.sp))∧Below (fx w x).heap.size (fx w x) w'):=(show Calls _ _ _ _ _ from by
  have:=rightX_any x.en (fx w x) (hx.below g0).ew (hd.below g0);rwa [fe_en,en_sp]at this)
 have HM:Hid (∀ w1,Below w.heap.size w w1→Calls prog 90 #[.slice x.ta x.p.lt.length x.tc] w1 fun e w'=>e=.returned (.int .i64 (Mt.rightE x.p.lt))∧Below w1.heap.size w1 w'):=(show ∀ w1,_ from fun w1 g=>Mt.right_any _ _ _ w1 (hx.t.below g) (by have:=hx.nt;omega) hx.ct)
 have HX:Hid (Be (fx w x) w.heap.size 0 x):=Be.new w x;have HR:Hid (wrongE x.p=if rightX x.p.sp≠0 then rightX x.p.sp else if Mt.rightE x.p.lt≠0 then Mt.rightE x.p.lt else if priB x.p.pri=true then 1 else 0):=(show _=_ from rfl)
 clear hx hd;generalize rightX x.p.sp=E1 at *
 generalize Mt.rightE x.p.lt=E2 at *
 by_cases h1:E1=0
 ·have b1:(E1 != 0)=false:=by simp[h1]
  by_cases h2:E2=0
  ·have b2:(E2 != 0)=false:=by simp[h2]
   have HR2:Hid (wrongE x.p=if priB x.p.pri=true then 1 else 0):=(show _=_ by rw[HR.out,if_neg (by simpa using h1),if_neg (by simpa using h2)])
   clear HR h1 h2;by_cases hp1:x.p.pri<0
   ·have HR3:Hid (wrongE x.p=1):=(show _=_ by rw[HR2.out,if_pos (by simp[priB,hp1])])
    clear HR2;go_enter func49,ntmps49;go_wp2_with (refine load_E rfl (.tmp 3) rfl w.heap.size 0 x rfl HX.out ?_);refine HI.out.mono ?_;rintro e w1 ⟨rfl,g1⟩;have G1:=btr g0 g1 (Nat.le_refl _);obtain⟨_,c1,c2,_⟩:=(HX.out.below (by simp) g1).cs;go_wp2_with fail;refine(HM.out w1 G1).mono ?_;rintro e w2 ⟨rfl,g2⟩;have z1:=g1.size;simp at z1;have c1':w2.cell? ⟨w.heap.size,1,none⟩=some (.int .i64 x.p.pri):=(g2.cell (p:=⟨w.heap.size,1,none⟩) (by show w.heap.size<w1.heap.size;omega)).trans c1;go_wp2_with fail;go_ret;exact⟨by rw[HR3.out];rfl,btr G1 g2 (Nat.le_refl _)⟩
   ·have hc:(65535<x.p.pri∧wrongE x.p=1)∨(¬ 65535<x.p.pri∧wrongE x.p=0):=by
     rw[HR2.out];by_cases hp2:65535<x.p.pri
     ·exact .inl ⟨hp2,if_pos (by simp[priB,hp2])⟩
     ·exact .inr ⟨hp2,if_neg (by unfold priB;rw[decide_eq_false hp1,decide_eq_false hp2];decide)⟩
    rcases hc with⟨hp2,h3⟩|⟨hp2,h3⟩
    all_goals
     have HR3:Hid _:=h3;clear h3;clear HR2;go_enter func49,ntmps49;go_wp2_with (refine load_E rfl (.tmp 3) rfl w.heap.size 0 x rfl HX.out ?_);refine HI.out.mono ?_;rintro e w1 ⟨rfl,g1⟩;have G1:=btr g0 g1 (Nat.le_refl _);obtain⟨_,c1,c2,_⟩:=(HX.out.below (by simp) g1).cs;go_wp2_with fail;refine(HM.out w1 G1).mono ?_;rintro e w2 ⟨rfl,g2⟩;have z1:=g1.size;simp at z1;have c1':w2.cell? ⟨w.heap.size,1,none⟩=some (.int .i64 x.p.pri):=(g2.cell (p:=⟨w.heap.size,1,none⟩) (by show w.heap.size<w1.heap.size;omega)).trans c1;go_wp2_with fail;go_ret;exact⟨by rw[HR3.out];rfl,btr G1 g2 (Nat.le_refl _)⟩
  ·have b2:(E2 != 0)=true:=by simp[h2]
   have HR3:Hid (wrongE x.p=E2):=(show _=_ by rw[HR.out,if_neg (by simpa using h1),if_pos h2])
   clear HR h1 h2;go_enter func49,ntmps49;go_wp2_with (refine load_E rfl (.tmp 3) rfl w.heap.size 0 x rfl HX.out ?_);refine HI.out.mono ?_;rintro e w1 ⟨rfl,g1⟩;have G1:=btr g0 g1 (Nat.le_refl _);obtain⟨_,c1,c2,_⟩:=(HX.out.below (by simp) g1).cs;go_wp2_with fail;refine(HM.out w1 G1).mono ?_;rintro e w2 ⟨rfl,g2⟩;go_wp2_with fail;go_ret;exact⟨by rw[HR3.out];rfl,btr G1 g2 (Nat.le_refl _)⟩
 ·have b1:(E1 != 0)=true:=by simp[h1]
  have HR3:Hid (wrongE x.p=E1):=(show _=_ by rw[HR.out,if_pos h1])
  clear HR h1;go_enter func49,ntmps49;go_wp2_with (refine load_E rfl (.tmp 3) rfl w.heap.size 0 x rfl HX.out ?_);refine HI.out.mono ?_;rintro e w1 ⟨rfl,g1⟩;go_wp2_with fail;go_ret;exact⟨by rw[HR3.out];rfl,btr g0 g1 (Nat.le_refl _)⟩
end Go.Proofs.YtgnihbdcdefdgaaGreatDoor

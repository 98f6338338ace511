import Derived.Test.YtgnihbdcdefdgaaGreatDoorX10
import Derived.Test.YtgnihbdcdefdgaaGreatDoorX19
import Derived.Test.YtgnihbdcdefdgaaGreatDoorX18
import Derived.Test.YtgnihbdcdefdgaaGreatDoorX12
import Derived.Test.YtgnihbdcdefdgaaGreatDoorX09
set_option maxRecDepth 20000
set_option maxHeartbeats 8000000
set_option linter.unusedVariables false
open Go.ChangeShapes Go.WideShapes Go.ChangeAt Go.RowKit
open Go.Proofs.Tryz
namespace Go.Proofs.YtgnihbdcdefdgaaGreatDoor
namespace Gp
theorem BrI.slice {V:World} {v:Value} {r:List Bk} {wr:World} (h:BrI V v r wr):∃ a c,v=.slice a r.length c∧r.length≤c∧c≤9223372036854775807∧(r=[]∨∃ g,a=some ⟨g,0,none⟩∧g<wr.heap.size∧V.heap.size≤g∧∀ i (h:i<r.length),Cb wr g (i*3) r[i]):=by
 rcases h.row.2 with⟨rfl,h0⟩|⟨g,cap,cur,rfl,hbg,hb,hnc,hcm,_⟩
 ·have hr:r=[]:=List.length_eq_zero_iff.1 h0;subst hr;exact⟨none,0,rfl,Nat.le_refl _,by decide,.inl rfl⟩
 ·exact⟨_,_,rfl,hnc,by unfold maxLen at hcm;omega,.inr ⟨g,rfl,(Array.getElem?_eq_some_iff.1 hb).1,hbg,fun i hi=>rowB_cells rfl h.row i hi⟩⟩
def sumW:List Bk→Int
 | []=>0
 | b::l=>b.we+sumW l
theorem sumW_append (l m:List Bk):sumW (l++m)=sumW l+sumW m:=by
 induction l with
 | nil=>simp[sumW]
 | cons b l ih=>simp only[List.cons_append,sumW,ih];omega
theorem sumW_snoc (l:List Bk) (q:Nat) (h:q<l.length):sumW (l.take (q+1))=sumW (l.take q)+l[q].we:=by
 rw[List.take_succ_eq_append_getElem h,sumW_append];simp[sumW]
def Wt (l:List Bk):Prop:=∀ b∈l,0<b.we∧b.we≤1099511627776
theorem Wt.take {l:List Bk} (h:Wt l) (q:Nat):Wt (l.take q):=fun b hb=>h b (List.mem_of_mem_take hb)
theorem Wt.sum:∀ {l:List Bk},Wt l→0≤sumW l∧sumW l≤l.length*1099511627776
 | [],_=>by simp[sumW]
 | b::l,h=>by
   have h1:=h b (by simp);have h2:=Wt.sum (l:=l) (fun x hx=>h x (by simp[hx]));simp only[sumW,List.length_cons];omega
theorem Wt.pos {l:List Bk} (h:Wt l) (hl:l≠[]):0<sumW l:=by
 cases l with
 | nil=>exact absurd rfl hl
 | cons b l =>
   have h1:=h b (by simp);have h2:=Wt.sum (l:=l) (fun x hx=>h x (by simp[hx]));simp only[sumW];omega
theorem sum_any (a:Option Addr) (l:List Bk) (c:Nat) (w:World) (hT:l=[]∨∃ g o,a=some ⟨g,o,none⟩∧g<w.heap.size∧∀ i (h:i<l.length),Cb w g (o+i*3) l[i]) (hn:l.length≤100) (hW:Wt l) :
 Calls prog 235 #[.slice a l.length c] w fun e w'=>e=.returned (.int .u64 (sumW l))∧Below w.heap.size w w':=by
 have HT:Hid (∀ w',Below w.heap.size w w'→l=[]∨∃ g o,a=some ⟨g,o,none⟩∧g<w'.heap.size∧∀ i (h:i<l.length),Cb w' g (o+i*3) l[i]):=(show ∀ w',_ from fun w' k=>by
  rcases hT with h|⟨g,o,h1,h2,h3⟩
  ·exact .inl h
  ·exact .inr ⟨g,o,h1,Nat.lt_of_lt_of_le h2 k.size,fun i hi=>(h3 i hi).below h2 k⟩)
 have HN:Hid (l.length≤100):=hn;have HW:Hid (Wt l):=hW;have HS:Hid (∀ q,0≤sumW (l.take q)∧sumW (l.take q)≤109951162777600):=(show ∀ q,_ from fun q=>by
  have h1:=(hW.take q).sum;have h2:(l.take q).length≤100:=by rw[List.length_take];omega
  omega)
 clear hT hn hW;go_enter func235,ntmps235;go_wp2_with fail;go_loopw [3,8] (fun v3 v wr=>∃ q:Nat,q≤l.length∧v=.int .i64 q∧v3=.int .u64 (sumW (l.take q))∧Below w.heap.size w wr) (fun _ v _=>l.length-(intOf v).toNat);case atStart=>exact⟨0,Nat.zero_le _,rfl,rfl,Below.refl _ _⟩
 case round =>
  obtain⟨q,hq,rfl,rfl,hbel⟩:=hrel;have hn:=HN.out;by_cases hlt:q<l.length
  ·obtain⟨b,o,rfl,hb,hc⟩:∃ g o,a=some ⟨g,o,none⟩∧g<wr.heap.size∧∀ i (h:i<l.length),Cb wr g (o+i*3) l[i]:=by
    rcases HT.out _ hbel with h|h
    ·subst h;cases hlt
    ·exact h
   obtain⟨d0,d1,d2⟩:=hc q hlt;have hw:=HW.out l[q] (List.getElem_mem hlt);have hs0:=HS.out q;have hs1:=HS.out (q+1);have HSn:Hid (sumW (l.take (q+1))=sumW (l.take q)+l[q].we):=sumW_snoc l q hlt;have hs2:sumW (l.take q)+l[q].we≤109951162777600:=by rw[← HSn.out];exact hs1.2
   have HB:Hid (Below w.heap.size w wr):=hbel;clear hc hs1 hbel;generalize sumW (l.take q)=S at *
   generalize l[q]=X at *
   obtain⟨wa,we,xa,xl,xc⟩:=X;simp only at d0 d1 d2 hw hs2 HSn;go_wp2_with fail;exact⟨⟨q+1,by omega,by go_num,by rw[HSn.out,Int.min_eq_left (by omega)],btr HB.out (by go_grown) (Nat.le_refl _)⟩,by simp[intOf];omega⟩
  ·have e:q=l.length:=by omega
   subst e;rw[List.take_length];go_wp2_with fail;go_ret;exact⟨rfl,hbel⟩
def Rs (w:World) (a:Option Addr) (l:List Bk):Prop:=l=[]∨∃ g o,a=some ⟨g,o,none⟩∧g<w.heap.size∧∀ i (h:i<l.length),Cb w g (o+i*3) l[i]
theorem Rs.below {w w':World} {a:Option Addr} {l:List Bk} (h:Rs w a l) (k:Below w.heap.size w w'):Rs w' a l:=by
 rcases h with h|⟨b,o,ha,hb,hc⟩
 ·exact .inl h
 ·exact .inr ⟨b,o,ha,Nat.lt_of_lt_of_le hb k.size,fun i hi=>(hc i hi).below hb k⟩
theorem first_any (a:Option Addr) (l:List Bk) (c:Nat) (w:World) (hT:Rs w a l) (hn:l.length≤100) (hc:l.length≤c) (hc2:c≤9223372036854775807) :
 Calls prog 163 #[.slice a l.length c] w fun e w'=>∃ a' c',e=.returned (.slice a' (l.take 1).length c')∧Rs w' a' (l.take 1)∧w'=w:=by
 cases l with
 | nil =>
   clear hT;simp only[List.length_nil]at hc hn ⊢;cases a with
   | none =>
     go_enter func163,ntmps163;go_wp2_with fail;go_ret;exact⟨_,c,rfl,.inl rfl,rfl⟩
   | some p =>
     go_enter func163,ntmps163;go_wp2_with fail;go_ret;exact⟨_,c,rfl,.inl rfl,rfl⟩
 | cons b l =>
   obtain⟨g,o,rfl,hg,hcs⟩:∃ g o,a=some ⟨g,o,none⟩∧g<w.heap.size∧∀ i (h:i<(b::l).length),Cb w g (o+i*3) (b::l)[i]:=by
    rcases hT with h|h
    ·cases h
    ·exact h
   have HC:Hid (Cb w g o b):=(show Cb _ _ _ _ by have:=hcs 0 (by simp);simpa using this)
   have hmin:min (1:Int) ((b::l).length:Int)=1:=by simp;omega
   clear hT hcs;generalize (b::l).length=n at *
   go_enter func163,ntmps163;go_wp2_with fail;go_ret;exact⟨_,c,rfl,.inr ⟨g,o,rfl,hg,fun i hi=>by
    have:i=0:=by simpa using hi
    subst this;simpa using HC.out⟩,rfl⟩
theorem wraps_u64 (n:Int) (h₀:0≤n) (h₁:n<18446744073709551616):IntKind.u64.wrap n=n:=by rw[wrap_u];omega
def goAt:List Bk→Int→List Bk
 | [],_=>[]
 | b::l,n=>if n<b.we then [b] else goAt l (n-b.we)
def atL (l:List Bk) (n:Int):List Bk:=if l=[] then [] else goAt l (n % sumW l)
theorem drop_at (l:List Bk) (i:Nat) (h:i<l.length):l.drop i=l[i]::l.drop (i+1):=List.drop_eq_getElem_cons h
theorem sub_rs {w:World} {g o:Nat} {l:List Bk} (h:∀ i (h:i<l.length),Cb w g (o+i*3) l[i]) (hg:g<w.heap.size) (i:Nat) (hi:i<l.length):Rs w (some ⟨g,o+i*3,none⟩) [l[i]] :=
 .inr ⟨g,o+i*3,rfl,hg,fun j hj=>by
  have:j=0:=by simpa using hj
  subst this;simpa using h i hi⟩
theorem at_any (a:Option Addr) (l:List Bk) (c:Nat) (w:World) (hT:Rs w a l) (hn:l.length≤100) (hc:l.length≤c) (hc2:c≤9223372036854775807) (hW:Wt l) (pl:Int) (p0:0≤pl) :
 Calls prog 209 #[.slice a l.length c,.int .u64 pl] w fun e w'=>∃ a' c',e=.returned (.slice a' (atL l pl).length c')∧Rs w' a' (atL l pl)∧Below w.heap.size w w':=by
 by_cases hl:l=[]
 ·subst hl;clear hT hW;go_enter func209,ntmps209;go_wp2_with fail;go_ret;exact⟨_,_,rfl,.inl rfl,Below.refl _ _⟩
 ·have hat:atL l pl=goAt l (pl % sumW l):=by unfold atL;rw[if_neg hl]
  have hS:=hW.pos hl;have hm0:=Int.emod_nonneg pl (show sumW l≠0 by omega);have hm1:=Int.emod_lt_of_pos pl hS;have htm:pl.tmod (sumW l)=pl % sumW l:=Int.tmod_eq_emod_of_nonneg p0;have HSum:Hid (Calls prog 235 #[.slice a l.length c] w fun e w'=>e=.returned (.int .u64 (sumW l))∧Below w.heap.size w w'):=sum_any a l c w hT hn hW;have hSb:=hW.sum;have hlp:0<l.length:=List.length_pos_iff.2 hl;obtain⟨g,o,rfl,hg,hcs⟩:∃ g o,a=some ⟨g,o,none⟩∧g<w.heap.size∧∀ i (h:i<l.length),Cb w g (o+i*3) l[i]:=by
   rcases hT with h|h
   ·exact absurd h hl
   ·exact h
  have HC:Hid (∀ w',Below w.heap.size w w'→g<w'.heap.size∧∀ i (h:i<l.length),Cb w' g (o+i*3) l[i]):=(show ∀ w',_ from fun w' k=>⟨Nat.lt_of_lt_of_le hg k.size,fun i hi=>(hcs i hi).below hg k⟩)
  have HW:Hid (Wt l):=hW;have HL:Hid (l≠[]):=hl;have HS0:Hid (goAt (l.drop 0) (pl % sumW l)=goAt l (pl % sumW l)∧pl % sumW l<sumW (l.drop 0)):=(show _∧_ from⟨by simp,by simpa using hm1⟩)
  have HA:Hid (atL l pl=goAt l (pl % sumW l)):=hat;have hlb:(l.length==0)=false:=by simp;omega
  have hlb2:(((l.length:Nat):Int)==0)=false:=by simp;omega
  have hsn:(sumW l==0)=false:=by simp;omega
  have HM:Hid (pl % sumW l<18446744073709551616):=(show _<_ by omega)
  clear hT hW hl hat hcs hm1;generalize pl % sumW l=M at *
  go_enter func209,ntmps209;go_wp2_with fail;refine HSum.out.mono ?_;rintro e w1 ⟨rfl,g1⟩;go_wp2_with fail;go_loopw [5,6] (fun v5 v6 wr=>∃ (i:Nat) (r:Int),i<l.length∧v6=.int .i64 i∧v5=.int .u64 r∧0≤r∧r≤M∧Hid (goAt (l.drop i) r=goAt l M∧r<sumW (l.drop i))∧wr=w1) (fun _ v6 _=>l.length-(intOf v6).toNat);case atStart=>exact⟨0,M,hlp,rfl,rfl,hm0,Int.le_refl _,HS0,rfl⟩
  case round =>
   obtain⟨i,r,hi,rfl,rfl,hr0,hrM,HI,rfl⟩:=hrel;obtain⟨hg1,hcs⟩:=HC.out _ g1;obtain⟨d0,d1,d2⟩:=hcs i hi;have hw:=HW.out l[i] (List.getElem_mem hi);have HD:Hid (l.drop i=l[i]::l.drop (i+1)):=drop_at l i hi;have HSub:=sub_rs hcs hg1 i hi;have HSub:Hid (Rs wr (some ⟨g,o+i*3,none⟩) [l[i]]):=HSub;clear hcs;by_cases hlt:r<l[i].we
   ·have hd:decide (l[i].we≤r)=false:=decide_eq_false (by omega);have HR:Hid (goAt l M=[l[i]]):=(show _=_ by rw[← HI.out.1,HD.out,goAt,if_pos hlt])
    clear hlt;generalize l[i]=X at *
    go_wp2_with fail;go_ret;rw[HA.out,HR.out];exact⟨_,_,rfl,HSub.out,g1⟩
   ·have hd:decide (l[i].we≤r)=true:=decide_eq_true (by omega);have h2:goAt (l.drop (i+1)) (r-l[i].we)=goAt l M:=by rw[← HI.out.1,HD.out,goAt,if_neg hlt]
    have h3:r-l[i].we<sumW (l.drop (i+1)):=by have:=HI.out.2;rw[HD.out,sumW]at this;omega
    have h4:i+1<l.length:=by
     by_cases hh:i+1<l.length
     ·exact hh
     ·have:l.drop (i+1)=[]:=List.drop_eq_nil_of_le (by omega);rw[this,sumW]at h3;omega
    have HN:Hid (goAt (l.drop (i+1)) (r-l[i].we)=goAt l M∧r-l[i].we<sumW (l.drop (i+1))):=(show _∧_ from⟨h2,h3⟩)
    clear h2 h3;generalize l[i]=X at *
    have hM:=HM.out;have hwr:IntKind.u64.wrap (r-X.we)=r-X.we:=wraps_u64 _ (by omega) (by omega);have hr2:0≤r-X.we:=by omega
    go_wp2_with fail;exact⟨⟨i+1,r-X.we,h4,by go_num,rfl,hr2,by omega,HN,trivial⟩,by simp[intOf];omega⟩
def encB (b:Bk):List Value:=[.int .i64 b.wa,.int .i64 b.we,.slice b.a b.l.length b.c]
open Go.Sort in
theorem flatK_eq [Inhabited Bk] (l:List Bk):flatK encB 3 l.toArray=(flatB l).toArray:=by
 apply Array.ext
 ·rw[size_flatK];simp[flatB_length]
 ·intro t h1 h2;have ht:t<l.length*3:=by simpa using h1
  have hq:t/3<l.length:=by omega
  have e:=get_flatK encB 3 l.toArray t (by simpa using ht);rw[getElem!_pos (flatK encB 3 l.toArray) t h1]at e;rw[e];obtain⟨x0,x1,x2⟩:=flatB_at l (t/3) hq;have e1:l.toArray[t/3]! = l[t/3]:=by simp[hq]
  rw[e1];have h2':t<(flatB l).length:=by simpa using h2
  have e2:(flatB l).toArray[t]'h2=(flatB l)[t]:=by simp
  rw[e2];have hm:t % 3=0∨t % 3=1∨t % 3=2:=by omega
  rcases hm with m|m|m
  ·have et:t=t/3*3:=by omega
   rw[← et,List.getElem?_eq_getElem h2']at x0;rw[m,Option.some.inj x0];rfl
  ·have et:t=t/3*3+1:=by omega
   rw[← et,List.getElem?_eq_getElem h2']at x1;rw[m,Option.some.inj x1];rfl
  ·have et:t=t/3*3+2:=by omega
   rw[← et,List.getElem?_eq_getElem h2']at x2;rw[m,Option.some.inj x2];rfl
open Go.Sort in
theorem reverse_any (V:World) (v:Value) (l:List Bk) (w:World) (h:BrI V v l w) (hn:l.length≤100):Calls prog 208 #[v] w fun e w'=>e=.returned (.tuple #[])∧BrI V v l.reverse w':=by
 have hInh:Inhabited Bk:=⟨⟨0,0,none,[],0⟩⟩
 rcases h.row.2 with⟨rfl,h0⟩|⟨g,cap,cur,rfl,hbg,hb,hnc,hcm,hcs,htk⟩
 ·have hr:l=[]:=List.length_eq_zero_iff.1 h0;subst hr;refine(Tryz.slices_Reverse_none none 0 w).mono ?_;rintro e w' ⟨rfl,rfl⟩;exact⟨rfl,h⟩
 ·have hH:HoldsK encB 3 w g 0 l.toArray:=by
   unfold HoldsK;rw[flatK_eq];intro j hj;have hj':j<(flatB l).length:=by simpa using hj
   have hj2:j<l.length*3:=by rw[← flatB_length];exact hj'
   rw[Nat.zero_add];refine⟨?_,h.row.frozenAt j⟩;rw[h.row.cellAt j hj2,List.getElem?_eq_getElem hj'];simp[hj']
  have hz:l.toArray.size=l.length:=by simp
  have hcall:=Tryz.slices_Reverse 3 (α:=Bk) Tryz.isAgg93 Tryz.sizeOf93 encB (fun _=>rfl) (fun b u hu=>by simp[encB]at hu;rcases hu with rfl|rfl|rfl<;>rfl) g 0 cap l.toArray w hH (by rw[hz];omega);rw[hz]at hcall;refine hcall.mono ?_;rintro e w' ⟨rfl,n,rfl⟩;have er:l.toArray.reverse=l.reverse.toArray:=by simp
  rw[er];unfold putRowK;rw[flatK_eq];have hlen:(flatB l.reverse).length=l.length*3:=by rw[flatB_length,List.length_reverse]
  have hbk:(putRow id (Sort.ahead w n) g 0 (flatB l.reverse).toArray).heap[g]? = some (.cells (putCells id 0 (flatB l.reverse).toArray cur) 93 (0,0)):=by
   simp[putRow,mapBlock,Sort.ahead,Array.getElem?_modify,hb,onCells]
  refine⟨rfl,?_,?_⟩
  ·rw[List.length_reverse];refine⟨hlen,.inr ⟨g,cap,_,rfl,hbg,hbk,hnc,hcm,by simp[putCells,hcs],?_⟩⟩;rw[← hlen];apply List.ext_getElem?;intro j;by_cases hj:j<(flatB l.reverse).length
   ·rw[List.getElem?_take_of_lt hj,Array.getElem?_toList];have hj2:j<cur.size:=by rw[hcs];have:=Nat.mul_le_mul_right 3 hnc;omega
    simp[putCells,hj,hj2]
   ·rw[List.getElem?_take_eq_none (by omega),List.getElem?_eq_none (by omega)]
  ·refine h.bel.grown (w':=putRow id (Sort.ahead w n) g 0 (flatB l.reverse).toArray) (row:=some g) ⟨rfl,rfl,rfl,by simp[putRow,mapBlock,Sort.ahead],fun k hk hne => ?_⟩ h.bel.size (fun j hj=>by cases hj;exact hbg);have:g≠k:=fun e=>hne (by rw[e]);simp[putRow,mapBlock,Sort.ahead,Array.getElem?_modify,this]
theorem BrI.rs {V:World} {v:Value} {r:List Bk} {wr:World} (h:BrI V v r wr):∃ a c,v=.slice a r.length c∧r.length≤c∧c≤9223372036854775807∧Rs wr a r:=by
 obtain⟨a,c,e,h1,h2,h3⟩:=h.slice;refine⟨a,c,e,h1,h2,?_⟩;rcases h3 with h3|⟨g,ha,hg,_,hc⟩
 ·exact .inl h3
 ·exact .inr ⟨g,0,ha,hg,fun i hi=>by rw[Nat.zero_add];exact hc i hi⟩
def pickL (l:List Bk) (n:Int):List Bk:=if n<0 then atL l.reverse (-(n+1)) else atL l n
theorem Wt.rev {l:List Bk} (h:Wt l):Wt l.reverse:=fun b hb=>h b (List.mem_reverse.1 hb)
theorem picked_any (V:World) (v:Value) (l:List Bk) (w:World) (h:BrI V v l w) (hn:l.length≤100) (hW:Wt l) (n:Int) (n0 : -9223372036854775808≤n) (n1:n≤9223372036854775807) :
 Calls prog 165 #[v,.int .i64 n] w fun e w'=>∃ a' c',e=.returned (.slice a' (pickL l n).length c')∧Rs w' a' (pickL l n)∧Below V.heap.size V w':=by
 by_cases hneg:n<0
 ·have HR:Hid (Calls prog 208 #[v] w fun e w'=>e=.returned (.tuple #[])∧BrI V v l.reverse w'):=reverse_any V v l w h hn;have HA:Hid (∀ w1,BrI V v l.reverse w1→Calls prog 209 #[v,.int .u64 (-(n+1))] w1 fun e w'=>∃ a' c',e=.returned (.slice a' (atL l.reverse (-(n+1))).length c')∧Rs w' a' (atL l.reverse (-(n+1)))∧Below w1.heap.size w1 w'):=(show ∀ w1,_ from fun w1 k=>by
   obtain⟨a,c,e,k1,k2,k3⟩:=k.rs;rw[e];exact at_any a l.reverse c w1 k3 (by simpa using hn) k1 k2 hW.rev _ (by omega))
  have hp:pickL l n=atL l.reverse (-(n+1)):=by unfold pickL;rw[if_pos hneg]
  rw[hp];have hb:decide (n<0)=true:=decide_eq_true hneg;have hwr:IntKind.u64.wrap (-(n+1)) = -(n+1):=wraps_u64 _ (by omega) (by omega);clear h hW hp;go_enter func165,ntmps165;go_wp2_with fail;refine HR.out.mono ?_;rintro e w1 ⟨rfl,h1⟩;have HB:Hid (BrI V v l.reverse w1):=h1;clear h1;go_wp2_with fail;refine(HA.out w1 HB.out).mono ?_;rintro e w2 ⟨a',c',rfl,h2,g2⟩;have G2:Below V.heap.size V w2:=HB.out.bel.trans (g2.mono HB.out.bel.size);clear g2;go_wp2_with fail;go_ret;exact⟨a',c',rfl,h2,G2⟩
 ·have HA:Hid (Calls prog 209 #[v,.int .u64 n] w fun e w'=>∃ a' c',e=.returned (.slice a' (atL l n).length c')∧Rs w' a' (atL l n)∧Below w.heap.size w w'):=(show Calls _ _ _ _ _ by
   obtain⟨a,c,e,k1,k2,k3⟩:=h.rs;rw[e];exact at_any a l c w k3 hn k1 k2 hW _ (by omega))
  have hp:pickL l n=atL l n:=by unfold pickL;rw[if_neg hneg]
  rw[hp];have hb:decide (n<0)=false:=decide_eq_false hneg;have hwr:IntKind.u64.wrap n=n:=wraps_u64 _ (by omega) (by omega);have HB:Hid (BrI V v l w):=h;clear h hW hp;go_enter func165,ntmps165;go_wp2_with fail;refine HA.out.mono ?_;rintro e w2 ⟨a',c',rfl,h2,g2⟩;have G2:Below V.heap.size V w2:=HB.out.bel.trans (g2.mono HB.out.bel.size);clear g2;go_wp2_with fail;go_ret;exact⟨a',c',rfl,h2,G2⟩
def chooseL (k:Int) (l:List Bk) (live:List Bool) (n:Int):List Bk :=
 if k=1∨k=3 then l else if k=4 then (l.filter fun b=>alvB live b.wa).take 1
 else if k=2 then pickL ((l.filter fun b=>alvB live b.wa).filter fun b=>decide (0<b.we)) n else []
theorem goAt_mem:∀ (l:List Bk) (n:Int) (b:Bk),b∈goAt l n→b∈l
 | [],_,_,h=>by cases h
 | x::l,n,b,h=>by
   unfold goAt at h;split at h
   ·simp at h;subst h;simp
   ·exact List.mem_cons_of_mem _ (goAt_mem l _ b h)
theorem atL_mem {l:List Bk} {n:Int} {b:Bk} (h:b∈atL l n):b∈l:=by
 unfold atL at h;split at h
 ·cases h
 ·exact goAt_mem _ _ _ h
theorem pickL_mem {l:List Bk} {n:Int} {b:Bk} (h:b∈pickL l n):b∈l:=by
 unfold pickL at h;split at h
 ·exact List.mem_reverse.1 (atL_mem h)
 ·exact atL_mem h
theorem goAt_len:∀ (l:List Bk) (n:Int),(goAt l n).length≤1
 | [],_=>by simp[goAt]
 | x::l,n=>by
   unfold goAt;split
   ·simp
   ·exact goAt_len l _
theorem atL_len (l:List Bk) (n:Int):(atL l n).length≤1:=by
 unfold atL;split
 ·simp
 ·exact goAt_len _ _
theorem pickL_len (l:List Bk) (n:Int):(pickL l n).length≤1:=by
 unfold pickL;split<;>exact atL_len _ _
theorem chooseL_mem {k:Int} {l:List Bk} {live:List Bool} {n:Int} {b:Bk} (h:b∈chooseL k l live n):b∈l:=by
 unfold chooseL at h;split at h
 ·exact h
 ·split at h
  ·exact(List.mem_filter.1 (List.mem_of_mem_take h)).1
  ·split at h
   ·exact(List.mem_filter.1 (List.mem_filter.1 (pickL_mem h)).1).1
   ·cases h
end Gp
def bk0 (b:B3):Gp.Bk:=⟨b.1,b.2.1,none,b.2.2,0⟩
def chooseV (k:Int) (l:List B3) (live:List Bool) (n:Int):List B3:=(Gp.chooseL k (l.map bk0) live n).map Gp.Bk.b3
def thrV (G:List G3) (live:List Bool) (pick:Int):Nat→Mt.Sn→Int→St→St
 | 0,_,_,σ=>σ
 | k+1,s,id,σ=>match G.find? (fun g=>decide (g.1=IntKind.i64.wrap id))with
   | none=>σ
   | some g=>bksV (fun l=>doV live (thrV G live pick k) l s) (chooseV g.2.1 g.2.2 live pick) σ
abbrev Ms:=List (Option (Int × Int × Int))
def takV (M:Ms) (n:Int) (k:Int):Bool × Ms :=
 if n<1∨(M.length:Int)≤n then (true,M) else match M.getD n.toNat none with
  | none=>(true,M)
  | some (r,m,l)=>(Me.takB l k,M.set n.toNat (some (r,m,Me.takeL l k)))
def passV (M:Ms) (n:Int) (p:Fr.Pk):Bool × Ms:=takV M n ((Fr.bytesS p).size:Int)
def metaV (m k v:Int):Int:=bits .or .u64 (bits .andNot .u64 m k) (bits .and .u64 v k)
def tabV (P:Nat→List Fp) (G:List G3) (live:List Bool) (pick:Int):Nat→Int→Mt.Sn→List A→St→Ms→St × Ms
 | 0,_,_,_,σ,M=>(σ,M)
 | k+1,from_,s,set,σ,M=>match lookP (tabOf P from_) s with
   | none=>(σ,M)
   | some x=>if (passV M x.met s.pk).1=false then (σ,(passV M x.met s.pk).2) else
     let r:=appV live (thrV G live pick 8) x.la s σ
     let set2:=Sr.mergeV ((if x.clr=true then [] else set)++x.lw)
     let s2:Mt.Sn:={ r.1 with mt:=metaV r.1.mt x.mm x.mt }
     if from_<x.go then tabV P G live pick k x.go s2 set2 r.2 (passV M x.met s.pk).2
     else (doV live (thrV G live pick 8) set2 s2 r.2,(passV M x.met s.pk).2)
def runV (P:Nat→List Fp) (G:List G3) (live:List Bool) (pick:Int) (s:Mt.Sn) (M:Ms):List Ot × Ms :=
 let r:=tabV P G live pick 8 0 { s with mt:=0 } [] ([],0) M
 (r.1.1,r.2)
def actV (G:List G3) (live:List Bool) (pick:Int) (l:List A) (s:Mt.Sn):List Ot × Mt.Sn :=
 let r:=appV live (thrV G live pick 8) l s ([],0)
 (r.2.1,r.1)
namespace Gp
theorem all_stop {α:Type} {l:List α} {f:α→Bool} {k:Nat} (h:k<l.length) (hf:f l[k]=false):l.all f=false:=by
 rw[List.all_eq_false];exact⟨l[k],List.getElem_mem h,by simp[hf]⟩
theorem all_step {α:Type} {l:List α} {f:α→Bool} {k:Nat} (h:k<l.length) (hp:∀ i (hi:i<l.length),i<k→f l[i]=true) (hf:f l[k]=true):∀ i (hi:i<l.length),i<k+1→f l[i]=true:=fun i hi hlt=>by
 by_cases e:i=k
 ·subst e;exact hf
 ·exact hp i hi (by omega)
theorem all_end {α:Type} {l:List α} {f:α→Bool} (hp:∀ i (hi:i<l.length),i<l.length→f l[i]=true):l.all f=true:=by
 rw[List.all_eq_true];intro x hx;obtain⟨i,hi,rfl⟩:=List.getElem_of_mem hx;exact hp i hi hi
theorem map_all {α β:Type} (f:α→β) (g:β→Bool) (l:List α):(l.map f).all g=l.all fun x=>g (f x):=by induction l<;>simp_all
theorem rightForm_any (g:Gr) (w:World) (hT:Bs w g.a g.l) (hn:g.l.length≤9223372036854775807):Calls prog 97 #[gV g] w fun e w'=>e=.returned (.bool (formB g.id g.kd (g.l.map Bk.b3)))∧Below w.heap.size w w':=by
 obtain⟨id,kd,ga,l,gc⟩:=g;simp only at hT hn;have HW:Hid (∀ n lo hi w,Calls prog 56 #[.int .i64 n,.int .i64 lo,.int .i64 hi] w fun e w'=>e=.returned (.bool (inB n lo hi))∧w'=w):=(show ∀ n lo hi w,_ from within_any)
 have HK:Hid (∀ w,Calls prog 136 #[.int .i64 kd] w fun e w'=>e=.returned (.bool (inB kd 1 4))∧w'=w):=(show ∀ w,_ from fun w=>isKind_any kd w)
 have HF:Hid (∀ w,Calls prog 137 #[.int .i64 kd] w fun e w'=>e=.returned (.int .i64 (fewV kd))∧w'=w):=(show ∀ w,_ from fun w=>fewest_any kd w)
 have HM:Hid (∀ w,Calls prog 138 #[.int .i64 kd] w fun e w'=>e=.returned (.int .i64 (mostV kd))∧w'=w):=(show ∀ w,_ from fun w=>most_any kd w)
 have HB:Hid (∀ (b:Bk) w,Calls prog 139 #[.int .i64 kd,bkV b] w fun e w'=>e=.returned (.bool (bkB kd b.b3))∧Below w.heap.size w w'):=(show ∀ (b:Bk) w,_ from fun b w=>rightBucket_any kd b w)
 obtain⟨V,hV⟩:∃ V,w.alloc (.cells #[.int .i64 id,.int .i64 kd,.slice ga l.length gc] 81)=V:=⟨_,rfl⟩
 have GV:Below w.heap.size w V:=by rw[← hV];go_grown
 have zV:V.heap.size=w.heap.size+1:=by rw[← hV];simp
 have cV:Cg V w.heap.size 0 ⟨id,kd,ga,l,gc⟩:=by rw[← hV];exact Cg.new w ⟨id,kd,ga,l,gc⟩
 have TV:Bs V ga l:=hT.below GV;have HV:Hid (w.alloc (.cells #[.int .i64 id,.int .i64 kd,.slice ga l.length gc] 81)=V):=hV;have q0:∀ n:GrT V,n.w.cell? ⟨w.heap.size,0,none⟩=some (.int .i64 id):=fun n=>(cV.below (by omega) n.h).1;have q1:∀ n:GrT V,n.w.cell? ⟨w.heap.size,1,none⟩=some (.int .i64 kd):=fun n=>(cV.below (by omega) n.h).2.1;have q2:∀ n:GrT V,n.w.cell? ⟨w.heap.size,2,none⟩=some (.slice ga l.length gc):=fun n=>(cV.below (by omega) n.h).2.2;have HT:Hid (∀ w',Below V.heap.size V w'→Bs w' ga l∧w'.cell? ⟨w.heap.size,1,none⟩=some (.int .i64 kd)∧w'.cell? ⟨w.heap.size,2,none⟩=some (.slice ga l.length gc)∧Below w.heap.size w w'∧w.heap.size<w'.heap.size):=(show ∀ w',_ from fun w' h=>⟨TV.below h,(cV.below (by omega) h).2.1,(cV.below (by omega) h).2.2,btr GV h (by omega),by have:=h.size;omega⟩)
 have hR:formB id kd (l.map Bk.b3)=(inB id 1 65535&&inB kd 1 4&&inB l.length (fewV kd) (mostV kd)&&l.all fun x=>bkB kd x.b3):=by unfold formB headB;rw[map_all,List.length_map]
 show Calls prog 97 #[.agg #[.int .i64 id,.int .i64 kd,.slice ga l.length gc]] w fun e w'=>e=.returned (.bool (formB id kd (l.map Bk.b3)))∧Below w.heap.size w w';rw[hR];clear hR hT TV cV GV zV hV;generalize fewV kd=F at *
 generalize mostV kd=M at *
 cases h1:inB id 1 65535 with
 | false =>
   go_enter func97,ntmps97;go_wp2_with fail;rw[HV.out];refine wp_region_grow (by kernel_rfl) (by kernel_rfl) ?_;repeat (go_big_quiet_step ((first|(go_at_call 56;exact quiet_gs (HW.out _ _ _ _))|(go_at_call 136;exact quiet_gs (HK.out _))|(go_at_call 137;exact quiet_gs (HF.out _))|(go_at_call 138;exact quiet_gs (HM.out _)))))
   refine wpQuiet_nil ?_;rintro w1 hw';have g1:=gr_elim hw';clear q0 q1 q2 hw';go_wp2_with fail;go_ret;exact⟨rfl,(HT.out _ g1).2.2.2.1⟩
 | true =>
   cases h2:inB kd 1 4 with
   | false =>
     go_enter func97,ntmps97;go_wp2_with fail;rw[HV.out];refine wp_region_grow (by kernel_rfl) (by kernel_rfl) ?_;repeat (go_big_quiet_step ((first|(go_at_call 56;exact quiet_gs (HW.out _ _ _ _))|(go_at_call 136;exact quiet_gs (HK.out _))|(go_at_call 137;exact quiet_gs (HF.out _))|(go_at_call 138;exact quiet_gs (HM.out _)))))
     refine wpQuiet_nil ?_;rintro w1 hw';have g1:=gr_elim hw';clear q0 q1 q2 hw';go_wp2_with fail;go_ret;exact⟨rfl,(HT.out _ g1).2.2.2.1⟩
   | true =>
     cases h3:inB (l.length:Int) F M with
     | false =>
       go_enter func97,ntmps97;go_wp2_with fail;rw[HV.out];refine wp_region_grow (by kernel_rfl) (by kernel_rfl) ?_;repeat (go_big_quiet_step ((first|(go_at_call 56;exact quiet_gs (HW.out _ _ _ _))|(go_at_call 136;exact quiet_gs (HK.out _))|(go_at_call 137;exact quiet_gs (HF.out _))|(go_at_call 138;exact quiet_gs (HM.out _)))))
       refine wpQuiet_nil ?_;rintro w1 hw';have g1:=gr_elim hw';clear q0 q1 q2 hw';go_wp2_with fail;go_ret;exact⟨rfl,(HT.out _ g1).2.2.2.1⟩
     | true =>
       rw[Bool.true_and,Bool.true_and,Bool.true_and];go_enter func97,ntmps97;go_wp2_with fail;rw[HV.out];refine wp_region_grow (by kernel_rfl) (by kernel_rfl) ?_;repeat (go_big_quiet_step ((first|(go_at_call 56;exact quiet_gs (HW.out _ _ _ _))|(go_at_call 136;exact quiet_gs (HK.out _))|(go_at_call 137;exact quiet_gs (HF.out _))|(go_at_call 138;exact quiet_gs (HM.out _)))))
       refine wpQuiet_nil ?_;rintro w1 hw';have g1:=gr_elim hw';clear q0 q1 q2 hw' h1 h2 h3 HV HW HK HF HM;obtain⟨_,c1,c2,_,z1⟩:=HT.out _ g1;go_wp2_with fail;clear c1 c2;go_loopw [31] (fun v wr=>∃ q:Nat,q≤l.length∧v=.int .i64 q∧Hid (∀ i (hi:i<l.length),i<q→bkB kd l[i].b3=true)∧Below V.heap.size V wr) (fun v _=>l.length-(intOf v).toNat);case atStart=>exact⟨0,Nat.zero_le _,rfl,(show ∀ i (hi:i<l.length),_ from fun i _ h=>by omega),g1⟩
       case round =>
        obtain⟨q,hq,rfl,HP,hbel⟩:=hrel;obtain⟨hBs,c1,c2,hw,zr⟩:=HT.out _ hbel;by_cases hlt:q<l.length
        ·obtain⟨b,o,rfl,hb,hc⟩:=hBs.at hlt;obtain⟨d0,d1,d2⟩:=hc q hlt;have HN:Hid (bkB kd l[q].b3=true→∀ i (hi:i<l.length),i<q+1→bkB kd l[i].b3=true):=(show _→_ from fun h=>all_step (f:=fun x:Bk=>bkB kd x.b3) hlt HP.out h)
         have HS:Hid (bkB kd l[q].b3=false→(l.all fun x=>bkB kd x.b3)=false):=(show _→_ from fun h=>all_stop (f:=fun x:Bk=>bkB kd x.b3) hlt h)
         have HBq:=HB.out l[q];have HBq:Hid (∀ w,Calls prog 139 #[.int .i64 kd,bkV l[q]] w fun e w'=>e=.returned (.bool (bkB kd l[q].b3))∧Below w.heap.size w w'):=HBq;have HBl:Hid (Below V.heap.size V wr):=hbel;clear hc hBs hw HP hbel;generalize bkB kd l[q].b3=R at *
         generalize l[q]=X at *
         go_wp2_with fail;refine(HBq.out _).mono ?_;rintro e w2 ⟨rfl,g2⟩;have hb2:Below V.heap.size V w2:=btr (btr HBl.out (by go_grown) (by have:=HBl.out.size;omega)) g2 (by have:=HBl.out.size;simp<;>omega);obtain⟨_,_,_,hw2,_⟩:=HT.out _ hb2;clear g2;cases R with
         | false =>
           have HF:Hid ((l.all fun x=>bkB kd x.b3)=false):=HS.out rfl;go_wp2_with fail;go_ret;exact⟨by rw[HF.out];rfl,hw2⟩
         | true =>
           have HN':Hid (∀ i (hi:i<l.length),i<q+1→bkB kd l[i].b3=true):=HN.out rfl;go_wp2_with fail;go_roundw;case rel=>exact⟨q+1,by omega,by go_num,HN',hb2⟩
           case measure=>simp[intOf];omega
        ·have e:q=l.length:=by omega
         subst e;have HE:Hid ((l.all fun x=>bkB kd x.b3)=true):=all_end (f:=fun x:Bk=>bkB kd x.b3) HP.out;clear HP;go_wp2_with fail;go_ret;exact⟨by rw[HE.out];rfl,hw⟩
theorem rightActions_any (g:Gr) (w:World) (hT:Bs w g.a g.l) (hn:Sm g.l) (hd:Cd w):Calls prog 98 #[gV g] w fun e w'=>e=.returned (.bool (actsB (g.l.map Bk.b3)))∧Below w.heap.size w w':=by
 obtain⟨id,kd,ga,l,gc⟩:=g;simp only at hT hn;have HN1:Hid (l.length≤100):=hn.n;have HN2:Hid (∀ b∈l,b.l.length≤100):=hn.a;obtain⟨V,hV⟩:∃ V,w.alloc (.cells #[.int .i64 id,.int .i64 kd,.slice ga l.length gc] 81)=V:=⟨_,rfl⟩
 have GV:Below w.heap.size w V:=by rw[← hV];go_grown
 have zV:V.heap.size=w.heap.size+1:=by rw[← hV];simp
 have cV:Cg V w.heap.size 0 ⟨id,kd,ga,l,gc⟩:=by rw[← hV];exact Cg.new w ⟨id,kd,ga,l,gc⟩
 have TV:Bs V ga l:=hT.below GV;have dV:Cd V:=hd.below GV;have HV:Hid (w.alloc (.cells #[.int .i64 id,.int .i64 kd,.slice ga l.length gc] 81)=V):=hV;have HT:Hid (∀ w',Below V.heap.size V w'→Bs w' ga l∧Cd w'∧w'.cell? ⟨w.heap.size,2,none⟩=some (.slice ga l.length gc)∧Below w.heap.size w w'∧w.heap.size<w'.heap.size):=(show ∀ w',_ from fun w' h=>⟨TV.below h,dV.below h,(cV.below (by omega) h).2.2,btr GV h (by omega),by have:=h.size;omega⟩)
 have HA:Hid (∀ (a:A) w,Cd w→Calls prog 140 #[tV a] w fun e w'=>e=.returned (.bool (rightB a))∧Below w.heap.size w w'):=(show ∀ (a:A) w,_ from fun a w h=>right_any a w h)
 have hR:actsB (l.map Bk.b3)=(l.all fun x=>allB x.l):=by unfold actsB;rw[map_all];rfl
 show Calls prog 98 #[.agg #[.int .i64 id,.int .i64 kd,.slice ga l.length gc]] w fun e w'=>e=.returned (.bool (actsB (l.map Bk.b3)))∧Below w.heap.size w w';rw[hR];have c2:V.cell? ⟨w.heap.size,2,none⟩=some (.slice ga l.length gc):=cV.2.2;clear hR hT TV cV GV zV hV dV hd hn;go_enter func98,ntmps98;go_wp2_with fail;rw[HV.out];clear c2 HV;go_loopw [10] (fun v wr=>∃ q:Nat,q≤l.length∧v=.int .i64 q∧Hid (∀ i (hi:i<l.length),i<q→allB l[i].l=true)∧Below V.heap.size V wr) (fun v _=>l.length-(intOf v).toNat);case atStart=>exact⟨0,Nat.zero_le _,rfl,(show ∀ i (hi:i<l.length),_ from fun i _ h=>by omega),Below.refl _ _⟩
 case round =>
  obtain⟨q,hq,rfl,HP,hbel⟩:=hrel;have hn1:=HN1.out;obtain⟨hBs,hCd,c2,hw,zr⟩:=HT.out _ hbel;by_cases hlt:q<l.length
  ·obtain⟨b,o,rfl,hb,hc⟩:=hBs.at hlt;obtain⟨d0,d1,d2⟩:=hc q hlt;have hTs:=hBs.1 l[q] (List.getElem_mem hlt);have hn2:=HN2.out l[q] (List.getElem_mem hlt);have HN:Hid (allB l[q].l=true→∀ i (hi:i<l.length),i<q+1→allB l[i].l=true):=(show _→_ from fun h=>all_step (f:=fun x:Bk=>allB x.l) hlt HP.out h)
   have HS:Hid (allB l[q].l=false→(l.all fun x=>allB x.l)=false):=(show _→_ from fun h=>all_stop (f:=fun x:Bk=>allB x.l) hlt h)
   have HTs:Hid (∀ w',Below wr.heap.size wr w'→Ts w' l[q].a l[q].l∧Below V.heap.size V w'):=(show ∀ w',_ from fun w' h=>⟨hTs.below h,btr hbel h (by have:=hbel.size;omega)⟩)
   clear hc hBs hw HP hTs hCd;generalize l[q]=X at *
   obtain⟨wa,we,xa,xl,xc⟩:=X;simp only at d0 d1 d2 hn2 HN HS HTs;obtain⟨U,hU⟩:∃ U,wr.alloc (.cells #[.int .i64 wa,.int .i64 we,.slice xa xl.length xc] 93)=U:=⟨_,rfl⟩
   have gU:Below wr.heap.size wr U:=by rw[← hU];go_grown
   have zU:U.heap.size=wr.heap.size+1:=by rw[← hU];simp
   have uc:U.cell? ⟨wr.heap.size,2,none⟩=some (.slice xa xl.length xc):=by rw[← hU];simp
   have HU:Hid (∀ w',Below U.heap.size U w'→Ts w' xa xl∧Cd w'∧Below V.heap.size V w'):=(show ∀ w',_ from fun w' h=>⟨(HTs.out w' (btr gU h (by omega))).1,(HT.out w' (HTs.out w' (btr gU h (by omega))).2).2.1,(HTs.out w' (btr gU h (by omega))).2⟩)
   have HAl:Hid (allB xl=xl.all rightB):=(show _=_ from rfl)
   clear HTs gU hbel;go_wp2_with fail;clear uc hU;go_loopw [17] (fun v wr=>∃ j:Nat,j≤xl.length∧v=.int .i64 j∧Hid (∀ i (hi:i<xl.length),i<j→rightB xl[i]=true)∧Below U.heap.size U wr) (fun v _=>xl.length-(intOf v).toNat);case atStart=>exact⟨0,Nat.zero_le _,rfl,(show ∀ i (hi:i<xl.length),_ from fun i _ h=>by omega),Below.refl _ _⟩
   case round =>
    obtain⟨j,hj,rfl,HPj,hbj⟩:=hrel;by_cases hjt:j<xl.length
    ·obtain⟨hTs,hCd,hbV⟩:=HU.out _ hbj;obtain⟨b2,o2,rfl,hb2,hc2⟩:=hTs.at hjt;obtain⟨e0,e1,e2⟩:=hc2 j hjt;have HNj:Hid (rightB xl[j]=true→∀ i (hi:i<xl.length),i<j+1→rightB xl[i]=true):=(show _→_ from fun h=>all_step (f:=rightB) hjt HPj.out h)
     have HSj:Hid (rightB xl[j]=false→(l.all fun x=>allB x.l)=false):=(show _→_ from fun h=>HS.out (by rw[HAl.out];exact all_stop (f:=rightB) hjt h))
     have HAj:Hid (∀ w,Cd w→Calls prog 140 #[tV xl[j]] w fun e w'=>e=.returned (.bool (rightB xl[j]))∧Below w.heap.size w w'):=HA.out xl[j];have HCd:Hid (∀ o:Obj,Cd (‹World›.alloc o)):=(show ∀ o:Obj,_ from fun o=>hCd.alloc o)
     have HBj:Hid (Below U.heap.size U ‹World›):=hbj;clear hc2 hTs HPj hbj hbV hCd;generalize rightB xl[j]=R at *
     generalize xl[j]=Y at *
     go_wp2_with fail;refine(HAj.out _ (HCd.out _)).mono ?_;rintro e w2 ⟨rfl,g2⟩;have hb3:Below U.heap.size U w2:=btr (btr HBj.out (by go_grown) (by have:=HBj.out.size;omega)) g2 (by have:=HBj.out.size;simp<;>omega);have hw2:=(HT.out _ (HU.out _ hb3).2.2).2.2.2.1;clear g2;cases R with
     | false =>
       have HF:Hid ((l.all fun x=>allB x.l)=false):=HSj.out rfl;go_wp2_with fail;go_ret;exact⟨by rw[HF.out];rfl,hw2⟩
     | true =>
       have HN':Hid (∀ i (hi:i<xl.length),i<j+1→rightB xl[i]=true):=HNj.out rfl;go_wp2_with fail;go_roundw;case rel=>exact⟨j+1,by omega,by go_num,HN',hb3⟩
       case measure=>simp[intOf];omega
    ·have e:j=xl.length:=by omega
     subst e;have HN':Hid (∀ i (hi:i<l.length),i<q+1→allB l[i].l=true):=HN.out (by rw[HAl.out];exact all_end (f:=rightB) HPj.out);have hbV:=(HU.out _ hbj).2.2;clear HPj hbj;go_wp2_with fail;go_roundw;case rel=>exact⟨q+1,by omega,by go_num,HN',hbV⟩
     case measure=>simp[intOf];omega
  ·have e:q=l.length:=by omega
   subst e;have HE:Hid ((l.all fun x=>allB x.l)=true):=all_end (f:=fun x:Bk=>allB x.l) HP.out;clear HP;go_wp2_with fail;go_ret;exact⟨by rw[HE.out];rfl,hw⟩
theorem right_g (g:Gr) (w:World) (hT:Bs w g.a g.l) (hn:Sm g.l) (hd:Cd w):Calls prog 57 #[gV g] w fun e w'=>e=.returned (.int .i64 (rightE g.p))∧Below w.heap.size w w':=by
 have HF:Hid (∀ w1,Below w.heap.size w w1→Calls prog 97 #[gV g] w1 fun e w'=>e=.returned (.bool (formB g.id g.kd (g.l.map Bk.b3)))∧Below w1.heap.size w1 w'):=(show ∀ w1,_ from fun w1 h=>rightForm_any g w1 (hT.below h) (Nat.le_trans hn.n (by decide)))
 have HA:Hid (∀ w1,Below w.heap.size w w1→Calls prog 98 #[gV g] w1 fun e w'=>e=.returned (.bool (actsB (g.l.map Bk.b3)))∧Below w1.heap.size w1 w'):=(show ∀ w1,_ from fun w1 h=>rightActions_any g w1 (hT.below h) hn (hd.below h))
 have hR:rightE g.p=if formB g.id g.kd (g.l.map Bk.b3)=true then (if actsB (g.l.map Bk.b3)=true then 0 else 22) else 24:=rfl;rw[hR];have hc:=Cg.new w g;obtain⟨V,hV⟩:∃ V,gx w g=V:=⟨_,rfl⟩
 have GV:Below w.heap.size w V:=by rw[← hV];go_grown
 have zV:w.heap.size<V.heap.size:=by rw[← hV];simp
 rw[hV]at hc;have HC:Hid (∀ w',Below V.heap.size V w'→Cg w' w.heap.size 0 g∧Below w.heap.size w w'):=(show ∀ w',_ from fun w' h=>⟨hc.below zV h,btr GV h (by omega)⟩)
 have HV:Hid (w.alloc (.cells #[.int .i64 g.id,.int .i64 g.kd,.slice g.a g.l.length g.c] 81)=V):=hV;obtain⟨c0,c1,c2⟩:=hc;rw[Nat.zero_add]at c1 c2;clear hR hT hn hd hV;generalize formB g.id g.kd (g.l.map Bk.b3)=F at *
 generalize actsB (g.l.map Bk.b3)=B at *
 cases F with
 | false =>
   go_enter func57,ntmps57;go_wp2_with fail;rw[HV.out];refine(HF.out V GV).mono ?_;rintro e w1 ⟨rfl,g1⟩;go_wp2_with fail;go_ret;exact⟨rfl,(HC.out _ g1).2⟩
 | true =>
   cases B with
   | false =>
     go_enter func57,ntmps57;go_wp2_with fail;rw[HV.out];refine(HF.out V GV).mono ?_;rintro e w1 ⟨rfl,g1⟩;obtain⟨⟨k0,k1,k2⟩,G1⟩:=HC.out _ g1;rw[Nat.zero_add]at k1 k2;go_wp2_with fail;refine(HA.out w1 G1).mono ?_;rintro e w2 ⟨rfl,g2⟩;go_wp2_with fail;go_ret;exact⟨rfl,btr G1 g2 (Nat.le_refl _)⟩
   | true =>
     go_enter func57,ntmps57;go_wp2_with fail;rw[HV.out];refine(HF.out V GV).mono ?_;rintro e w1 ⟨rfl,g1⟩;obtain⟨⟨k0,k1,k2⟩,G1⟩:=HC.out _ g1;rw[Nat.zero_add]at k1 k2;go_wp2_with fail;refine(HA.out w1 G1).mono ?_;rintro e w2 ⟨rfl,g2⟩;go_wp2_with fail;go_ret;exact⟨rfl,btr G1 g2 (Nat.le_refl _)⟩
end Gp
end Go.Proofs.YtgnihbdcdefdgaaGreatDoor

import Derived.Test.YtgnihbdcdefdgaaGreatDoorX09
import Derived.Test.YtgnihbdcdefdgaaGreatDoorRows
import Derived.WalkKit
import Derived.ProofKit
import Derived.OpenShut
import Derived.Handy
import Derived.Laws.BytesArg
import Derived.Laws.BitsLemmas
set_option maxRecDepth 20000
set_option maxHeartbeats 8000000
set_option linter.unusedVariables false
open Go.ChangeShapes Go.WideShapes Go.ChangeAt Go.RowKit
open Go.Proofs.Tryz
namespace Go.Proofs.YtgnihbdcdefdgaaGreatDoor
namespace Gp
theorem copies_any (a:Option Addr) (l:List Bk) (c:Nat) (w:World) (hT:Bs w a l) (hn:Sm l) :
 Calls prog 88 #[.slice a l.length c] w fun e w'=>∃ a' c' r,e=.returned (.slice a' r.length c')∧r.map Bk.b3=l.map Bk.b3∧BsF w.heap.size w' a' r∧Below w.heap.size w w':=by
 have HB:Hid (Calls prog 128 #[.slice a l.length c] w fun e w'=>∃ v,e=.returned v∧w'.ownsRow w.heap.size 93 3 v l.length (flatB l)∧Below w.heap.size w w'):=cloneB a l c w hT (by have:=hn.n;omega);have HC:Hid (∀ (x:Bk) w1,x∈l→Below w.heap.size w w1→Calls prog 86 #[.slice x.a x.l.length x.c] w1 fun e w'=>∃ a' c',e=.returned (.slice a' x.l.length c')∧TsF w1.heap.size w' a' x.l∧Below w1.heap.size w1 w'):=(show ∀ (x:Bk) w1,_ from fun x w1 hx g=>cloneA x.a x.l x.c w1 ((hT.1 x hx).below g) (by have:=hn.a x hx;omega))
 have HN:Hid (l.length≤100):=hn.n;clear hT hn;go_enter func88,ntmps88;go_wp2_with fail;refine HB.out.mono ?_;rintro e w1 ⟨v,rfl,hrow,g1⟩;rcases hrow.2 with⟨rfl,h0⟩|⟨g,cap,cur,rfl,hbg,hhg,hnc,hcm,hcs,htk⟩
 ·have hl:l=[]:=List.length_eq_zero_iff.1 h0;subst hl;clear hrow HB HC;go_wp2_with fail;go_loopw [8] (fun v wr=>v=.int .i64 0∧wr=w1) (fun _ _=>0);case atStart=>exact⟨rfl,rfl⟩
  case round =>
   obtain⟨rfl,rfl⟩:=hrel;go_wp2_with fail;go_ret;exact⟨none,0,[],rfl,rfl,⟨by simp,.inl rfl⟩,g1⟩
 ·have hI:CpI w g cap l 0 w1 l:=⟨rfl,hrow,fun i _ h=>by omega,rfl,fun i _ _ _=>rfl,g1⟩
  have H0:Hid (CpI w g cap l 0 w1 l):=hI;clear hI HB hbg hhg hcm hcs htk g1 hrow;go_wp2_with fail;go_loopw [8] (fun v wr=>∃ (q:Nat) (r:List Bk),q≤l.length∧v=.int .i64 q∧Hid (CpI w g cap l q wr r)) (fun v _=>l.length-(intOf v).toNat);case atStart=>exact⟨0,l,Nat.zero_le _,rfl,H0⟩
  case round =>
   obtain⟨q,r,hq,rfl,HI⟩:=hrel;have h100:=HN.out;by_cases hlt:q<l.length
   ·have hr:q<r.length:=by have:=HI.out.len;omega
    have hcell:=(rowB_cells (by rw[HI.out.len]) HI.out.row q hr).2.2;have hbel:=HI.out.bel;have hfr:=HI.out.row.frozenAt (q*3+2);have hg:=(HI.out.row.lt g rfl).2;have hmem:r[q]∈l:=by rw[HI.out.left q hr hlt (Nat.le_refl _)];exact List.getElem_mem hlt
    have HCq:Hid (∀ n:GrT wr,Calls prog 86 #[.slice r[q].a r[q].l.length r[q].c] n.w fun e w'=>∃ a' c',e=.returned (.slice a' r[q].l.length c')∧TsF n.w.heap.size w' a' r[q].l∧Below n.w.heap.size n.w w'):=(show ∀ n:GrT wr,_ from fun n=>HC.out r[q] n.w hmem (btr hbel n.h (by have:=hbel.size;omega)))
    go_wp2_with fail;refine(HCq.out none).mono ?_;rintro e w2 ⟨a',c',rfl,ht,g2⟩;have hS:CpI w g cap l (q+1) (w2.setCell ⟨g,q*3+2,none⟩ (.slice a' r[q].l.length c')) _:=HI.out.step hr a' c' ht g2;have HS:Hid (CpI w g cap l (q+1) (w2.setCell ⟨g,q*3+2,none⟩ (.slice a' r[q].l.length c')) (r.set q { r[q]with a:=a',c:=c' })):=hS;have hcell2:w2.cell? ⟨g,q*3+2,none⟩=some (.slice r[q].a r[q].l.length r[q].c):=(g2.cell (p:=⟨g,q*3+2,none⟩) hg).trans hcell;have hfr2:w2.frozen? ⟨g,q*3+2,none⟩=false:=(World.frozen?_of_block (a:=⟨g,q*3+2,none⟩) (g2.block g hg)).trans hfr;clear hS ht g2 hcell hfr HCq hbel;go_wp2_with fail;go_roundw;case rel=>exact⟨q+1,_,by omega,by go_num,HS⟩
    case measure=>simp[intOf];omega
   ·have e:q=l.length:=by omega
    subst e;have hlen:=HI.out.len;go_wp2_with fail;go_ret;exact⟨some ⟨g,0,none⟩,cap,r,by rw[hlen];rfl,HI.out.same,HI.out.end_ (Nat.le_refl _),HI.out.bel⟩
theorem copyOf_any (g:Gr) (w:World) (hT:Bs w g.a g.l) (hn:Sm g.l) :
 Calls prog 47 #[gV g] w fun e w'=>∃ g':Gr,e=.returned (gV g')∧g'.p=g.p∧BsF w.heap.size w' g'.a g'.l∧Below w.heap.size w w':=by
 have HC:Hid (∀ w1,Below w.heap.size w w1→Calls prog 88 #[.slice g.a g.l.length g.c] w1 fun e w'=>∃ a' c' r,e=.returned (.slice a' r.length c')∧r.map Bk.b3=g.l.map Bk.b3∧BsF w1.heap.size w' a' r∧Below w1.heap.size w1 w'):=(show ∀ w1,_ from fun w1 h=>copies_any g.a g.l g.c w1 (hT.below h) hn)
 clear hT hn;go_enter func47,ntmps47;go_wp2_with fail;obtain⟨V,hV⟩:∃ V,(w.alloc (.cells #[.int .i64 g.id,.int .i64 g.kd,.slice g.a g.l.length g.c] 81)).alloc (.cells #[.int .i64 0,.int .i64 0,.slice none 0 0] 81)=V:=⟨_,rfl⟩
 have gV:Below w.heap.size w V:=by rw[← hV];go_grown
 have zV:V.heap.size=w.heap.size+2:=by rw[← hV];simp
 have b0:V.cell? ⟨w.heap.size,0,none⟩=some (.int .i64 g.id)∧V.cell? ⟨w.heap.size,1,none⟩=some (.int .i64 g.kd)∧V.cell? ⟨w.heap.size,2,none⟩=some (.slice g.a g.l.length g.c)∧V.frozen? ⟨w.heap.size,2,none⟩=false:=by rw[← hV];simp
 have b1:V.cell? ⟨w.heap.size+1,0,none⟩=some (.int .i64 0)∧V.cell? ⟨w.heap.size+1,1,none⟩=some (.int .i64 0)∧V.cell? ⟨w.heap.size+1,2,none⟩=some (.slice none 0 0)∧∀ o,V.frozen? ⟨w.heap.size+1,o,none⟩=false:=by rw[← hV];simp
 rw[hV];clear hV;refine(HC.out V gV).mono ?_;rintro e w3 ⟨a',c',r,rfl,hr,hb,g3⟩;have hc:∀ (b o:Nat),b<V.heap.size→w3.cell? ⟨b,o,none⟩=V.cell? ⟨b,o,none⟩:=fun b o h=>g3.cell (p:=⟨b,o,none⟩) h;have hf:∀ (b o:Nat),b<V.heap.size→w3.frozen? ⟨b,o,none⟩=V.frozen? ⟨b,o,none⟩:=fun b o h=>g3.frozen (p:=⟨b,o,none⟩) h;obtain⟨x0,x1,x2,x3⟩:=b0;obtain⟨y0,y1,y2,y3⟩:=b1;have c0:=(hc w.heap.size 0 (by omega)).trans x0;have c1:=(hc w.heap.size 1 (by omega)).trans x1;have c2:=(hc w.heap.size 2 (by omega)).trans x2;have f2:=(hf w.heap.size 2 (by omega)).trans x3;have d0:=(hc (w.heap.size+1) 0 (by omega)).trans y0;have d1:=(hc (w.heap.size+1) 1 (by omega)).trans y1;have d2:=(hc (w.heap.size+1) 2 (by omega)).trans y2;have g0:=fun o=>(hf (w.heap.size+1) o (by omega)).trans (y3 o);obtain⟨w4,h4⟩:∃ w4,w3.setCell ⟨w.heap.size,2,none⟩ (.slice a' r.length c')=w4:=⟨_,rfl⟩
 have k0:w4.cell? ⟨w.heap.size,0,none⟩=some (.int .i64 g.id):=by rw[← h4,World.cell?_setCell_other _ _ _ _ (by simp)];exact c0
 have k1:w4.cell? ⟨w.heap.size,1,none⟩=some (.int .i64 g.kd):=by rw[← h4,World.cell?_setCell_other _ _ _ _ (by simp)];exact c1
 have k2:w4.cell? ⟨w.heap.size,2,none⟩=some (.slice a' r.length c'):=by rw[← h4];exact World.cell?_setCell_same _ _ _ c2
 have m0:w4.cell? ⟨w.heap.size+1,0,none⟩=some (.int .i64 0):=by rw[← h4,World.cell?_setCell_other _ _ _ _ (by simp)];exact d0
 have m1:w4.cell? ⟨w.heap.size+1,1,none⟩=some (.int .i64 0):=by rw[← h4,World.cell?_setCell_other _ _ _ _ (by simp)];exact d1
 have m2:w4.cell? ⟨w.heap.size+1,2,none⟩=some (.slice none 0 0):=by rw[← h4,World.cell?_setCell_other _ _ _ _ (by simp)];exact d2
 have n0:∀ o,w4.frozen? ⟨w.heap.size+1,o,none⟩=false:=fun o=>by rw[← h4];simp[g0 o]
 have HB:Hid (BsF V.heap.size w3 a' r):=hb;have HG:Hid (Below V.heap.size V w3):=g3;have HV:Hid (Below w.heap.size w V∧V.heap.size=w.heap.size+2):=(show _∧_ from⟨gV,zV⟩)
 have HR:Hid (r.map Bk.b3=g.l.map Bk.b3):=hr;have H4:Hid (w3.setCell ⟨w.heap.size,2,none⟩ (.slice a' r.length c')=w4):=h4;clear hb g3 gV zV hr HC hc hf x0 x1 x2 x3 y0 y1 y2 y3 d0 d1 d2 g0 c0 c1;go_wp2_with fail;obtain⟨s0,s1,s2⟩:=s3_cells (o:=0) (x:=.int .i64 g.id) (y:=.int .i64 g.kd) (z:=.slice a' r.length c') m0 m1 m2;have O4:Only w.heap.size w3 w4:=by rw[← H4.out];exact(Only.refl _ _).setCell _ _
 have O5:=Only.s3 w4 (w.heap.size+1) 0 (.int .i64 g.id) (.int .i64 g.kd) (.slice a' r.length c');obtain⟨hV1,hV2⟩:=HV.out;refine bodyPost_ret (resG (b:=w.heap.size+1) (t:=⟨g.id,g.kd,a',r,c'⟩) rfl rfl ⟨s0,s1,s2⟩) rfl ?_;refine⟨⟨g.id,g.kd,a',r,c'⟩,rfl,by simp[Gr.p,HR.out],HB.out.mono (by omega) (by rw[O5.size,O4.size];exact Nat.le_refl _) (fun b h1 h2=>(O5.block b (by omega)).trans (O4.block b (by omega))),?_⟩;exact O5.below (by omega) (O4.below (Nat.le_refl _) (hV1.trans (HG.out.mono (by omega))))
def livB (live:List Bool) (i:Int):Bool:=live.getD i.toNat false
def alvB (live:List Bool) (wa:Int):Bool:=wa==0||(inB wa 1 ((live.length:Int)-1)&&livB live wa)
def Ls (w:World) (a:Option Addr) (l:List Bool):Prop:=l=[]∨∃ g o,a=some ⟨g,o,none⟩∧g<w.heap.size∧∀ i (h:i<l.length),w.cell? ⟨g,o+i,none⟩=some (.bool l[i])
theorem Ls.below {w w':World} {a:Option Addr} {l:List Bool} (h:Ls w a l) (g:Below w.heap.size w w'):Ls w' a l:=by
 rcases h with h|⟨b,o,ha,hb,hc⟩
 ·exact .inl h
 ·exact .inr ⟨b,o,ha,Nat.lt_of_lt_of_le hb g.size,fun i hi=>(g.cell (p:=⟨b,o+i,none⟩) hb).trans (hc i hi)⟩
structure BrI (V:World) (v:Value) (r:List Bk) (wr:World):Prop where
 row:wr.ownsRow V.heap.size 93 3 v r.length (flatB r)
 bel:Below V.heap.size V wr
theorem BrI.grow {V:World} {v:Value} {r:List Bk} {wr w2:World} (h:BrI V v r wr) (g:Below wr.heap.size wr w2):BrI V v r w2:=⟨own_below h.row g,h.bel.trans (g.mono h.bel.size)⟩
theorem BrI.app {V:World} {v v':Value} {r s:List Bk} {wr w2:World} (h:BrI V v r wr) (k:wr.grownBy w2 v.ownBlock) (o:w2.ownsRow V.heap.size 93 3 v' s.length (flatB s)):BrI V v' s w2 :=
 ⟨o,h.bel.grown k h.bel.size (fun j hj=>(h.row.lt j hj).1)⟩
theorem filt_snoc {α:Type} (f:α→Bool) (l:List α) (q:Nat) (h:q<l.length):(l.take (q+1)).filter f=(l.take q).filter f++(if f l[q]=true then [l[q]] else []):=by
 rw[List.take_succ_eq_append_getElem h,List.filter_append];congr 1;by_cases hf:f l[q]=true<;>simp[hf]
theorem filt_len {α:Type} (f:α→Bool) (l:List α) (q:Nat):((l.take q).filter f).length≤l.length:=by
 have h1:=List.length_filter_le f (l.take q);rw[List.length_take]at h1;omega
theorem in_pos {wa n:Int} (h:inB wa 1 n=true):1≤wa∧wa≤n:=by
 unfold inB at h;simp only[Bool.and_eq_true,decide_eq_true_eq]at h;exact h
theorem wpList_appB1 {w:World} {ops:Array Oper} {rest:List Oper} {o:Oper} {a:Act} {Q:Exit→Act→World→Prop} (hgd:o.guard=none) (s x:Operand)
 (ho:o.op=.call { callee:=.builtin .append,args:=#[s,x],argTypes:=#[79,79] }) (V:World) (v:Value) (r:List Bk) (hs:a.eval s=v) (hI:BrI V v r w)
 (g:Nat) (b:Bk) (hx:a.eval x=.slice (some ⟨g,0,none⟩) 1 1) (hg:g<w.heap.size) (hc:Cb w g 0 b) (hn:r.length≤100)
 (h:∀ v' w',BrI V v' (r++[b]) w'→wpList prog ops Q rest (a.put o.dst v') w'):wpList prog ops Q (o::rest) a w :=
 wpList_appB hgd s x ho V.heap.size v r.length (flatB r) hs hI.row (some ⟨g,0,none⟩) 1 [b] 1 rfl hx (.inr ⟨g,0,rfl,hg,fun i hi=>by
  have:i=0:=by simpa using hi
  subst this;exact hc⟩) (by simp;omega) hI.bel.size (fun v' w' h1 h2=>h v' w' (hI.app h2 (by rw[List.length_append,flatB_append];exact h1)))
theorem weighty_any (a:Option Addr) (l:List Bk) (c:Nat) (w:World) (hT:Bs w a l) (hn:l.length≤100) :
 Calls prog 166 #[.slice a l.length c] w fun e w'=>∃ v,e=.returned v∧BrI w v (l.filter fun b=>decide (0<b.we)) w':=by
 have HT:Hid (∀ w',Below w.heap.size w w'→Bs w' a l):=(show ∀ w',_ from fun w' k=>hT.below k)
 have HN:Hid (l.length≤100):=hn;clear hT hn;go_enter func166,ntmps166;go_wp2_with fail;go_loopw [3,8] (fun v3 v wr=>∃ q:Nat,q≤l.length∧v=.int .i64 q∧Hid (BrI w v3 ((l.take q).filter fun b=>decide (0<b.we)) wr)) (fun _ v _=>l.length-(intOf v).toNat);case atStart=>exact⟨0,Nat.zero_le _,rfl,(show BrI _ _ _ _ from⟨World.ownsRow_nil _ _ _ _,Below.refl _ _⟩)⟩
 case round =>
  obtain⟨q,hq,rfl,HI⟩:=hrel;have hn:=HN.out;by_cases hlt:q<l.length
  ·obtain⟨b,o,rfl,hb,hc⟩:=(HT.out _ HI.out.bel).at hlt;obtain⟨d0,d1,d2⟩:=hc q hlt;have HF:Hid ((l.take (q+1)).filter (fun b=>decide (0<b.we))=(l.take q).filter (fun b=>decide (0<b.we))++(if decide (0<l[q].we)=true then [l[q]] else [])):=filt_snoc _ l q hlt;have HL:Hid (((l.take q).filter fun b=>decide (0<b.we)).length≤100):=(show _≤_ from Nat.le_trans (filt_len _ l q) hn)
   clear hc;generalize l[q]=X at *
   obtain⟨wa,we,xa,xl,xc⟩:=X;simp only at d0 d1 d2 HF;cases hwe:decide (0<we)with
   | false =>
     have HI1:Hid (BrI w u3 ((l.take (q+1)).filter fun b=>decide (0<b.we)) (wr.alloc (.cells #[.int .i64 wa,.int .i64 we,.slice xa xl.length xc] 93))):=(show BrI _ _ _ _ by rw[HF.out,hwe];simpa using HI.out.grow (by go_grown))
     clear HI HF;go_wp2_with fail;go_roundw;case rel=>exact⟨q+1,by omega,by go_num,HI1⟩
     case measure=>simp[intOf];omega
   | true =>
     have HI1:Hid (BrI w u3 ((l.take q).filter fun b=>decide (0<b.we)) ((wr.alloc (.cells #[.int .i64 wa,.int .i64 we,.slice xa xl.length xc] 93)).alloc (.cells #[.int .i64 wa,.int .i64 we,.slice xa xl.length xc] 93))):=(show BrI _ _ _ _ from HI.out.grow (by go_grown))
     have HF1:Hid ((l.take (q+1)).filter (fun b=>decide (0<b.we))=(l.take q).filter (fun b=>decide (0<b.we))++[Bk.mk wa we xa xl xc]):=(show _=_ by rw[HF.out,hwe];simp)
     clear HI HF;go_wp2_with (at_builtin;refine wpList_appB1 rfl _ _ rfl w u3 _ rfl HI1.out (wr.heap.size+1) ⟨wa,we,xa,xl,xc⟩ rfl (by simp) ⟨by simp,by simp,by simp⟩ HL.out ?_;intro v' w1 ho);have HI2:Hid (BrI w v' ((l.take (q+1)).filter fun b=>decide (0<b.we)) w1):=(show BrI _ _ _ _ by rw[HF1.out];exact ho)
     clear ho HI1 HF1;go_wp2_with fail;go_roundw;case rel=>exact⟨q+1,by omega,by go_num,HI2⟩
     case measure=>simp[intOf];omega
  ·have e:q=l.length:=by omega
   subst e;have HI1:Hid (BrI w u3 (l.filter fun b=>decide (0<b.we)) wr):=(show BrI _ _ _ _ by have:=HI.out;rwa [List.take_length]at this)
   clear HI;go_wp2_with fail;go_ret;exact⟨_,rfl,HI1.out⟩
theorem alive_any (a:Option Addr) (l:List Bk) (c:Nat) (la:Option Addr) (live:List Bool) (lc:Nat) (w:World) (hT:Bs w a l) (hn:l.length≤100) (hV:Ls w la live) (hm:live.length≤1000) :
 Calls prog 164 #[.slice a l.length c,.slice la live.length lc] w fun e w'=>∃ v,e=.returned v∧BrI w v (l.filter fun b=>alvB live b.wa) w':=by
 have HT:Hid (∀ w',Below w.heap.size w w'→Bs w' a l∧Ls w' la live):=(show ∀ w',_ from fun w' k=>⟨hT.below k,hV.below k⟩)
 have HN:Hid (l.length≤100∧live.length≤1000):=(show _∧_ from⟨hn,hm⟩)
 have HW:Hid (∀ n lo hi w,Calls prog 56 #[.int .i64 n,.int .i64 lo,.int .i64 hi] w fun e w'=>e=.returned (.bool (inB n lo hi))∧w'=w):=(show ∀ n lo hi w,_ from within_any)
 clear hT hn hV hm;go_enter func164,ntmps164;go_wp2_with fail;go_loopw [5,10] (fun v5 v wr=>∃ q:Nat,q≤l.length∧v=.int .i64 q∧Hid (BrI w v5 ((l.take q).filter fun b=>alvB live b.wa) wr)) (fun _ v _=>l.length-(intOf v).toNat);case atStart=>exact⟨0,Nat.zero_le _,rfl,(show BrI _ _ _ _ from⟨World.ownsRow_nil _ _ _ _,Below.refl _ _⟩)⟩
 case round =>
  obtain⟨q,hq,rfl,HI⟩:=hrel;obtain⟨hn,hm⟩:=HN.out;by_cases hlt:q<l.length
  ·obtain⟨hBs,hLs⟩:=HT.out _ HI.out.bel;obtain⟨b,o,rfl,hb,hc⟩:=hBs.at hlt;obtain⟨d0,d1,d2⟩:=hc q hlt;have HF:Hid ((l.take (q+1)).filter (fun b=>alvB live b.wa)=(l.take q).filter (fun b=>alvB live b.wa)++(if alvB live l[q].wa=true then [l[q]] else [])):=filt_snoc _ l q hlt;have HL:Hid (((l.take q).filter fun b=>alvB live b.wa).length≤100):=(show _≤_ from Nat.le_trans (filt_len _ l q) hn)
   have HLs:Hid (Ls wr la live):=hLs;clear hc hBs hLs;generalize l[q]=X at *
   obtain⟨wa,we,xa,xl,xc⟩:=X;simp only at d0 d1 d2 HF;cases h0:(wa==0)with
   | true =>
     have HAV:Hid (alvB live wa=true):=(show _=_ by unfold alvB;rw[h0];rfl)
     have HI1:Hid (BrI w u5 ((l.take q).filter fun b=>alvB live b.wa) ((wr.alloc (.cells #[.int .i64 wa,.int .i64 we,.slice xa xl.length xc] 93)).alloc (.cells #[.int .i64 wa,.int .i64 we,.slice xa xl.length xc] 93))):=(show BrI _ _ _ _ from HI.out.grow (by go_grown))
     have HF1:Hid ((l.take (q+1)).filter (fun b=>alvB live b.wa)=(l.take q).filter (fun b=>alvB live b.wa)++[Bk.mk wa we xa xl xc]):=(show _=_ by rw[HF.out,HAV.out];simp)
     clear HI HF;go_wp2_with (first|(go_at_call 56;refine(HW.out _ _ _ _).mono ?_;rintro e w' ⟨rfl,rfl⟩)|(at_builtin;refine wpList_appB1 rfl _ _ rfl w u5 _ rfl HI1.out (wr.heap.size+1) ⟨wa,we,xa,xl,xc⟩ rfl (by simp) ⟨by simp,by simp,by simp⟩ HL.out ?_;intro v' w1 ho));have HI2:Hid (BrI w v' ((l.take (q+1)).filter fun b=>alvB live b.wa) w1):=(show BrI _ _ _ _ by rw[HF1.out];exact ho)
     clear ho HI1 HF1;go_wp2_with fail;go_roundw;case rel=>exact⟨q+1,by omega,by go_num,HI2⟩
     case measure=>simp[intOf];omega
   | false =>
     cases h1:inB wa 1 ((live.length:Int)-1)with
     | false =>
       have HAV:Hid (alvB live wa=false):=(show _=_ by unfold alvB;rw[h0,h1];rfl)
       have HI1:Hid (BrI w u5 ((l.take (q+1)).filter fun b=>alvB live b.wa) (wr.alloc (.cells #[.int .i64 wa,.int .i64 we,.slice xa xl.length xc] 93))):=(show BrI _ _ _ _ by rw[HF.out,HAV.out];simpa using HI.out.grow (by go_grown))
       clear HI HF;go_wp2_with (go_at_call 56;refine(HW.out _ _ _ _).mono ?_;rintro e w' ⟨rfl,rfl⟩);go_roundw;case rel=>exact⟨q+1,by omega,by go_num,HI1⟩
       case measure=>simp[intOf];omega
     | true =>
       obtain⟨p0,p1⟩:=in_pos h1;have hlv:wa.toNat<live.length:=by omega
       obtain⟨lg,lo,rfl,hlg,hlc⟩:∃ g o,la=some ⟨g,o,none⟩∧g<wr.heap.size∧∀ i (h:i<live.length),wr.cell? ⟨g,o+i,none⟩=some (.bool live[i]):=by
        rcases HLs.out with h|h
        ·subst h;simp at hlv
        ·exact h
       have hcell:=hlc wa.toNat hlv;have HLv:Hid (livB live wa=live[wa.toNat]):=(show _=_ by unfold livB;simp[List.getD,hlv])
       clear hlc HLs;cases h2:live[wa.toNat]with
       | false =>
         rw[h2]at hcell;have HAV:Hid (alvB live wa=false):=(show _=_ by unfold alvB;rw[h0,h1,HLv.out,h2];rfl)
         clear h2 HLv;have HI1:Hid (BrI w u5 ((l.take (q+1)).filter fun b=>alvB live b.wa) (wr.alloc (.cells #[.int .i64 wa,.int .i64 we,.slice xa xl.length xc] 93))):=(show BrI _ _ _ _ by rw[HF.out,HAV.out];simpa using HI.out.grow (by go_grown))
         clear HI HF;go_wp2_with (go_at_call 56;refine(HW.out _ _ _ _).mono ?_;rintro e w' ⟨rfl,rfl⟩);go_roundw;case rel=>exact⟨q+1,by omega,by go_num,HI1⟩
         case measure=>simp[intOf];omega
       | true =>
         rw[h2]at hcell;have HAV:Hid (alvB live wa=true):=(show _=_ by unfold alvB;rw[h0,h1,HLv.out,h2];rfl)
         clear h2 HLv;have HI1:Hid (BrI w u5 ((l.take q).filter fun b=>alvB live b.wa) ((wr.alloc (.cells #[.int .i64 wa,.int .i64 we,.slice xa xl.length xc] 93)).alloc (.cells #[.int .i64 wa,.int .i64 we,.slice xa xl.length xc] 93))):=(show BrI _ _ _ _ from HI.out.grow (by go_grown))
         have HF1:Hid ((l.take (q+1)).filter (fun b=>alvB live b.wa)=(l.take q).filter (fun b=>alvB live b.wa)++[Bk.mk wa we xa xl xc]):=(show _=_ by rw[HF.out,HAV.out];simp)
         clear HI HF;go_wp2_with (first|(go_at_call 56;refine(HW.out _ _ _ _).mono ?_;rintro e w' ⟨rfl,rfl⟩)|(at_builtin;refine wpList_appB1 rfl _ _ rfl w u5 _ rfl HI1.out (wr.heap.size+1) ⟨wa,we,xa,xl,xc⟩ rfl (by simp) ⟨by simp,by simp,by simp⟩ HL.out ?_;intro v' w1 ho));have HI2:Hid (BrI w v' ((l.take (q+1)).filter fun b=>alvB live b.wa) w1):=(show BrI _ _ _ _ by rw[HF1.out];exact ho)
         clear ho HI1 HF1;go_wp2_with fail;go_roundw;case rel=>exact⟨q+1,by omega,by go_num,HI2⟩
         case measure=>simp[intOf];omega
  ·have e:q=l.length:=by omega
   subst e;have HI1:Hid (BrI w u5 (l.filter fun b=>alvB live b.wa) wr):=(show BrI _ _ _ _ by have:=HI.out;rwa [List.take_length]at this)
   clear HI;go_wp2_with fail;go_ret;exact⟨_,rfl,HI1.out⟩
end Gp
namespace Fr
theorem Tryz.info5:(prog.info? 5).map (fun i=>(i.zero,i.size,i.bytes))=some (some (.int .u8 0),1,1):=by kernel_rfl
theorem mkAny (k:Nat) (w:World) (hk:k≤8):(Instr.makeSlice 254 (.int .i64 k) (.int .i64 k)).run prog w=.ok (.slice (some ⟨w.heap.size,0,none⟩) k k) (w.alloc (.cells (List.replicate k (.int .u8 0)).toArray 5)):=by
 obtain⟨i0,hi,hz0,hz1,hz2⟩:=info_parts Tryz.info5;rw[run_make w 254 5 i0 _ underlying254 hi hz0 .i64 .i64 k k (by omega) (by omega) (by rw[hz2];omega) (by omega),hz1];have e:madeCells (Value.int .u8 0).cells (Int.toNat (k:Int)*1)=(List.replicate k (Value.int .u8 0)).toArray:=by
  apply Array.ext<;>simp[madeCells,Value.cells,Nat.mod_one]
 rw[e,Int.toNat_natCast]
theorem cvAny (k:Nat) (xs:List Int) (h:xs.length=k) (w:World) :
 (convert 254 9 (.slice (some ⟨w.heap.size,0,none⟩) k k)).run prog (w.alloc (.cells (xs.map (Value.int .u8)).toArray 5))=.ok (.string (strOfNums xs)) (w.alloc (.cells (xs.map (Value.int .u8)).toArray 5)):=by
 refine run_convert_bytes_arg _ 254 5 underlying254 underlying5 w.heap.size 0 k k xs h (fun i hi => ?_) 9 underlying9;have hi':i<xs.length:=by omega
 simp[List.getElem?_eq_getElem hi']
theorem mk1 (w:World):(Instr.makeSlice 254 (.int .i64 1) (.int .i64 1)).run prog w=.ok (.slice (some ⟨w.heap.size,0,none⟩) 1 1) (w.alloc (.cells #[.int .u8 0] 5)):=mkAny 1 w (by omega)
theorem cv1 (a:Int) (w:World):(convert 254 9 (.slice (some ⟨w.heap.size,0,none⟩) 1 1)).run prog (w.alloc (.cells #[.int .u8 a] 5))=.ok (.string (strOfNums [a])) (w.alloc (.cells #[.int .u8 a] 5)):=cvAny 1 [a] rfl w
theorem p1 (n:Int) (h0:0≤n) (h1:n<256):[n]=pieces n 1:=by simp[pieces];omega
theorem put_1 (n:Int) (w:World) (h0:0≤n) (h1:n<256) :
 Calls prog 227 #[.int .u64 n,.int .i64 1] w fun e w'=>e=.returned (.tuple #[.string (strOfNums (pieces n 1)),.int .i64 0])∧Below w.heap.size w w':=by
 have hm:=mk1;have hc:=cv1;have hn:(n/256 != 0)=false:=by rw[Int.ediv_eq_zero_of_lt h0 h1];rfl
 go_enter func227,ntmps227;go_wp2;go_rounds 2;go_ret2
 rw[← p1 n h0 h1];exact⟨rfl,by go_grown⟩
theorem mk2 (w:World):(Instr.makeSlice 254 (.int .i64 2) (.int .i64 2)).run prog w=.ok (.slice (some ⟨w.heap.size,0,none⟩) 2 2) (w.alloc (.cells #[.int .u8 0,.int .u8 0] 5)):=mkAny 2 w (by omega)
theorem cv2 (a b:Int) (w:World):(convert 254 9 (.slice (some ⟨w.heap.size,0,none⟩) 2 2)).run prog (w.alloc (.cells #[.int .u8 a,.int .u8 b] 5))=.ok (.string (strOfNums [a,b])) (w.alloc (.cells #[.int .u8 a,.int .u8 b] 5)):=cvAny 2 [a,b] rfl w
theorem p2 (n:Int) (h0:0≤n) (h1:n<65536):[n/256,n % 256]=pieces n 2:=by simp[pieces];omega
theorem put_2 (n:Int) (w:World) (h0:0≤n) (h1:n<65536) :
 Calls prog 227 #[.int .u64 n,.int .i64 2] w fun e w'=>e=.returned (.tuple #[.string (strOfNums (pieces n 2)),.int .i64 0])∧Below w.heap.size w w':=by
 have hm:=mk2;have hc:=cv2;have hn:(n/65536 != 0)=false:=by rw[Int.ediv_eq_zero_of_lt h0 h1];rfl
 go_enter func227,ntmps227;go_wp2;go_rounds 3;go_ret2
 rw[← p2 n h0 h1];exact⟨rfl,by go_grown⟩
theorem mk4 (w:World):(Instr.makeSlice 254 (.int .i64 4) (.int .i64 4)).run prog w=.ok (.slice (some ⟨w.heap.size,0,none⟩) 4 4) (w.alloc (.cells #[.int .u8 0,.int .u8 0,.int .u8 0,.int .u8 0] 5)):=mkAny 4 w (by omega)
theorem cv4 (a b c d:Int) (w:World):(convert 254 9 (.slice (some ⟨w.heap.size,0,none⟩) 4 4)).run prog (w.alloc (.cells #[.int .u8 a,.int .u8 b,.int .u8 c,.int .u8 d] 5))=.ok (.string (strOfNums [a,b,c,d])) (w.alloc (.cells #[.int .u8 a,.int .u8 b,.int .u8 c,.int .u8 d] 5)):=cvAny 4 [a,b,c,d] rfl w
theorem p4 (n:Int) (h0:0≤n) (h1:n<4294967296):[n/16777216,n/65536 % 256,n/256 % 256,n % 256]=pieces n 4:=by simp[pieces];omega
theorem put_4 (n:Int) (w:World) (h0:0≤n) (h1:n<4294967296) :
 Calls prog 227 #[.int .u64 n,.int .i64 4] w fun e w'=>e=.returned (.tuple #[.string (strOfNums (pieces n 4)),.int .i64 0])∧Below w.heap.size w w':=by
 have hm:=mk4;have hc:=cv4;have hn:(n/4294967296 != 0)=false:=by rw[Int.ediv_eq_zero_of_lt h0 h1];rfl
 go_enter func227,ntmps227;go_wp2;go_rounds 5;go_ret2
 rw[← p4 n h0 h1];exact⟨rfl,by go_grown⟩
theorem mk6 (w:World):(Instr.makeSlice 254 (.int .i64 6) (.int .i64 6)).run prog w=.ok (.slice (some ⟨w.heap.size,0,none⟩) 6 6) (w.alloc (.cells #[.int .u8 0,.int .u8 0,.int .u8 0,.int .u8 0,.int .u8 0,.int .u8 0] 5)):=mkAny 6 w (by omega)
theorem cv6 (a b c d e f:Int) (w:World):(convert 254 9 (.slice (some ⟨w.heap.size,0,none⟩) 6 6)).run prog (w.alloc (.cells #[.int .u8 a,.int .u8 b,.int .u8 c,.int .u8 d,.int .u8 e,.int .u8 f] 5))=.ok (.string (strOfNums [a,b,c,d,e,f])) (w.alloc (.cells #[.int .u8 a,.int .u8 b,.int .u8 c,.int .u8 d,.int .u8 e,.int .u8 f] 5)):=cvAny 6 [a,b,c,d,e,f] rfl w
theorem p6 (n:Int) (h0:0≤n) (h1:n<281474976710656):[n/1099511627776,n/4294967296 % 256,n/16777216 % 256,n/65536 % 256,n/256 % 256,n % 256]=pieces n 6:=by simp[pieces];omega
theorem put_6 (n:Int) (w:World) (h0:0≤n) (h1:n<281474976710656) :
 Calls prog 227 #[.int .u64 n,.int .i64 6] w fun e w'=>e=.returned (.tuple #[.string (strOfNums (pieces n 6)),.int .i64 0])∧Below w.heap.size w w':=by
 have hm:=mk6;have hc:=cv6;have hn:(n/281474976710656 != 0)=false:=by rw[Int.ediv_eq_zero_of_lt h0 h1];rfl
 go_enter func227,ntmps227;go_wp2;go_rounds 7;go_ret2
 rw[← p6 n h0 h1];exact⟨rfl,by go_grown⟩
theorem wraps_u64 (n:Int) (h₀:0≤n) (h₁:n<2 ^ 64):IntKind.u64.wrap n=n:=by rw[IntKind.wrap_u64];omega
def rnd (n:Nat):Nat:=if n=0 then 0 else (n-1) % 65535+1
theorem rnd_step (n:Nat) (h:65536≤n):rnd (n % 65536+n/65536)=rnd n:=by
 unfold rnd;rw[if_neg (by omega),if_neg (by omega)];omega
theorem rnd_small (n:Nat) (h:n<65536):rnd n=n:=by unfold rnd;split<;>omega
theorem rnd_le (n:Nat):rnd n≤65535:=by unfold rnd;split<;>omega
theorem rnd_left (a b:Nat):rnd (rnd a+b)=rnd (a+b):=by unfold rnd;(repeat' split)<;>omega
def psum:Bool→List UInt8→Nat
 | _,[]=>0
 | true,b::l=>256*b.toNat+psum false l
 | false,b::l=>b.toNat+psum true l
theorem psum_cons (h:Bool) (b:UInt8) (l:List UInt8):psum h (b::l)=(if h then 256*b.toNat else b.toNat)+psum (!h) l:=by
 cases h<;>rfl
theorem psum_append (l m:List UInt8):∀ h,psum h (l++m)=psum h l+psum (xor h (l.length % 2==1)) m:=by
 induction l with
 | nil=>intro h;simp[psum]
 | cons b l ih =>
   intro h;have e:xor (!h) (l.length % 2==1)=xor h ((l.length+1) % 2==1):=by
    rcases Nat.mod_two_eq_zero_or_one l.length with e|e
    ·have:(l.length+1) % 2=1:=by omega
     rw[e,this];cases h<;>rfl
    ·have:(l.length+1) % 2=0:=by omega
     rw[e,this];cases h<;>rfl
   rw[List.cons_append,psum_cons,psum_cons,ih,List.length_cons,e,Nat.add_assoc]
theorem psum_le (l:List UInt8):∀ h,psum h l≤65280*l.length:=by
 induction l with
 | nil=>intro h;simp[psum]
 | cons b l ih =>
   intro h;have:=ih (!h);have hb:=b.toNat_lt;rw[psum_cons,List.length_cons];split<;>omega
theorem and_65535_u64 (a:Int) (h0:0≤a) (h1:a<2 ^ 64):bits .and .u64 a 65535=a % 65536:=bits_mask .u64 64 (by decide) wraps_u64 16 (by decide) a h0 h1
theorem ret_int {k:IntKind} {a b:Int} (h:a=b):Ending.returned (.int k a)=.returned (.int k b):=by rw[h]
theorem ret_bool {a b:Bool} (h:a=b):Ending.returned (.bool a)=.returned (.bool b):=by rw[h]
theorem fold_u64 (k:Nat) (h:k<2 ^ 64):IntKind.u64.wrap (bits BinOp.and IntKind.u64 (k:Int) 65535+(k:Int)/65536)=((k % 65536+k/65536:Nat):Int):=by
 rw[and_65535_u64 _ (by omega) (by omega),wraps_u64 _ (by omega) (by omega)];omega
theorem round_any (n:Nat) (w:World) (h:n<2 ^ 64) :
 Calls prog 232 #[.int .u64 n] w fun x w'=>x=.returned (.int .i64 (rnd n))∧w'=w:=by
 go_enter func232,ntmps232;go_wp2;go_loop [0] (fun v=>∃ k:Nat,k<2 ^ 64∧rnd k=rnd n∧v=.int .u64 k) (fun v=>(intOf v).toNat);case atStart=>exact⟨n,h,rfl,rfl⟩
 case round =>
  obtain⟨k,hk,hr,rfl⟩:=hrel;by_cases hlt:65535<k
  ·go_wp2;go_round;case rel=>exact⟨k % 65536+k/65536,by omega,by rw[rnd_step k (by omega),hr],by rw[fold_u64 k hk]⟩
   case measure=>rw[fold_u64 k hk];simp only[intOf];omega
  ·go_wp2;go_ret;exact⟨ret_int (by rw[← hr,rnd_small k (by omega)]),rfl⟩
theorem psum_take (s:ByteArray) (k:Nat) (h:k<s.size) :
 psum true (s.data.toList.take (k+1))=psum true (s.data.toList.take k)+(if k % 2=0 then 256*s[k].toNat else s[k].toNat):=by
 have hk:k<s.data.toList.length:=by simpa using h
 rw[List.take_succ_eq_append_getElem hk,psum_append,List.length_take,Nat.min_eq_left (Nat.le_of_lt hk),psum_cons];rcases Nat.mod_two_eq_zero_or_one k with e|e<;>rw[e]<;>simp[psum]<;>rfl
theorem psum_take_le (s:ByteArray) (k:Nat):psum true (s.data.toList.take k)≤65280*k:=by
 have h:=psum_le (s.data.toList.take k) true;have:=List.length_take_le k s.data.toList;omega
theorem wr_hi (a:Nat) (c:UInt8) (h:a≤100000000000):IntKind.u64.wrap ((a:Int)+IntKind.u64.wrap (IntKind.u64.wrap (c.toNat:Int)*256))=((a+256*c.toNat:Nat):Int):=by
 have hc:=c.toNat_lt;rw[wraps_u64 (c.toNat:Int) (by omega) (by omega),wraps_u64 ((c.toNat:Int)*256) (by omega) (by omega),wraps_u64 _ (by omega) (by omega)];omega
theorem wr_lo (a:Nat) (c:UInt8) (h:a≤100000000000):IntKind.u64.wrap ((a:Int)+IntKind.u64.wrap (c.toNat:Int))=((a+c.toNat:Nat):Int):=by
 have hc:=c.toNat_lt;rw[wraps_u64 (c.toNat:Int) (by omega) (by omega),wraps_u64 _ (by omega) (by omega)];omega
theorem pairs_any (s:ByteArray) (w:World) (hs:s.size≤1000000) :
 Calls prog 233 #[.string s] w fun x w'=>x=.returned (.int .u64 (psum true s.data.toList))∧w'=w:=by
 go_enter func233,ntmps233;go_wp2;go_loop [3,8] (fun n i=>∃ k:Nat,k≤s.size∧i=.int .i64 k∧n=.int .u64 (psum true (s.data.toList.take k))) (fun _ i=>s.size-(intOf i).toNat);case atStart=>exact⟨0,Nat.zero_le _,rfl,rfl⟩
 case round =>
  obtain⟨k,hk,rfl,rfl⟩:=hrel;by_cases hlt:k<s.size
  ·have HS:Hid (psum true (s.data.toList.take (k+1))=psum true (s.data.toList.take k)+(if k % 2=0 then 256*s[k].toNat else s[k].toNat)):=psum_take s k hlt;have HB:Hid (psum true (s.data.toList.take k)≤65280*k):=psum_take_le s k;rcases Nat.mod_two_eq_zero_or_one k with he|he
   ·go_wp2;go_round;case rel=>exact⟨k+1,by omega,by go_num,by rw[HS.out,if_pos he,wr_hi _ _ (by have:=HB.out;omega)]⟩
    case measure=>simp[intOf];omega
   ·go_wp2;go_round;case rel=>exact⟨k+1,by omega,by go_num,by rw[HS.out,if_neg (by omega),wr_lo _ _ (by have:=HB.out;omega)]⟩
    case measure=>simp[intOf];omega
  ·go_wp2;go_ret;exact⟨ret_int (by rw[List.take_of_length_le (by simp;omega)]),rfl⟩
def sumV (l:List UInt8):Nat:=65535-rnd (psum true l)
theorem sumV_eq (l:List UInt8):(65535:Int)-(rnd (psum true l):Int)=(sumV l:Int):=by have:=rnd_le (psum true l);unfold sumV;omega
theorem psum_lt (s:ByteArray) (hs:s.size≤1000000):psum true s.data.toList<2 ^ 64:=by
 have h:=psum_le s.data.toList true;have e:s.data.toList.length=s.size:=by simp
 omega
theorem sum_any (s:ByteArray) (w:World) (hs:s.size≤1000000) :
 Calls prog 202 #[.string s] w fun x w'=>x=.returned (.int .i64 (sumV s.data.toList))∧w'=w:=by
 have HP:Hid (psum true s.data.toList<2 ^ 64):=psum_lt s hs;have HR:Hid (rnd (psum true s.data.toList)≤65535):=rnd_le _;go_enter func202,ntmps202;go_wp2_with fail;refine(pairs_any s _ hs).mono ?_;rintro x w1 ⟨rfl,rfl⟩;go_wp2_with fail;refine(round_any _ _ HP.out).mono ?_;rintro x w1 ⟨rfl,rfl⟩;have hr:=HR.out;go_wp2_with fail;go_ret;exact⟨ret_int (sumV_eq _),rfl⟩
end Fr
end Go.Proofs.YtgnihbdcdefdgaaGreatDoor

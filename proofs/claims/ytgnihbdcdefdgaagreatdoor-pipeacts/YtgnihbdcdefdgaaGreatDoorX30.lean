import Derived.Test.YtgnihbdcdefdgaaGreatDoorX29
import Derived.Deep.RegionHeld
import Derived.Test.YtgnihbdcdefdgaaGreatDoorX25
set_option maxRecDepth 20000
set_option maxHeartbeats 16000000
set_option linter.unusedSimpArgs false
set_option linter.unusedVariables false
open Go.ChangeShapes Go.WideShapes Go.ChangeAt Go.RowKit
open Go.Proofs.Tryz
namespace Go.Proofs.YtgnihbdcdefdgaaGreatDoor
def fewE (x:Fp):Bool:=decide (x.lt.length≤20)&&(decide (x.la.length≤40)&&decide (x.lw.length≤40))
def fewG (g:G3):Bool:=decide (g.2.2.length≤16)&&g.2.2.all (fun b=>decide (b.2.2.length≤20))
def fewM (el:List Fe) (gl:List Gp.Gr) (ml:List (Int × Int)) (live:List Bool):Bool :=
 decide (el.length≤30∧gl.length≤20∧ml.length≤20∧live.length≤50)&&((el.all fun x=>fewE x.p)&&gl.all fun g=>fewG g.p)
theorem allq_snoc {α:Type} (q:α→Bool) (l:List α) (k:Nat) (h:k<l.length):(l.take (k+1)).all q=((l.take k).all q&&q l[k]):=by
 rw[List.take_succ_eq_append_getElem h,List.all_append];simp
theorem allq_at {α:Type} {q:α→Bool} {l:List α} (k:Nat) (h:k<l.length) (hq:q l[k]=false):l.all q=false:=by
 rw[List.all_eq_false];exact⟨l[k],List.getElem_mem h,by simp[hq]⟩
theorem few_any (ea:Option Addr) (el:List Fe) (ec:Nat) (ga:Option Addr) (gl:List Gp.Gr) (gc:Nat) (ma:Option Addr) (ml:List (Int × Int)) (mc:Nat) (la:Option Addr) (live:List Bool) (lc:Nat) (w:World) (I:Mi w ea el ga gl ma ml la live) :
 Calls prog 9 #[mdV ea el.length ec ga gl.length gc ma ml.length mc la live.length lc] w fun e w'=>e=.returned (.bool (fewM el gl ml live))∧Below w.heap.size w w':=by
 obtain⟨R,hR⟩:∃ R,R=fewM el gl ml live:=⟨_,rfl⟩
 rw[← hR];have HR:Hid (R=fewM el gl ml live):=hR;obtain⟨V,hV⟩:∃ V,w.alloc (.cells (mdC ea el.length ec ga gl.length gc ma ml.length mc la live.length lc) 27)=V:=⟨_,rfl⟩
 have gV:Below w.heap.size w V:=by rw[← hV];go_grown
 have HI:Hid (Mi V ea el ga gl ma ml la live):=I.below gV;have HgV:Hid (Below w.heap.size w V):=gV;have hc:V.cell? ⟨w.heap.size,0,none⟩=some (.slice ea el.length ec)∧V.cell? ⟨w.heap.size,1,none⟩=some (.slice ga gl.length gc)∧V.cell? ⟨w.heap.size,2,none⟩=some (.slice ma ml.length mc)∧V.cell? ⟨w.heap.size,3,none⟩=some (.slice la live.length lc):=by rw[← hV];simp
 obtain⟨c0,c1,c2,c3⟩:=hc;have hen:(el.length:Int)≤9223372036854775807:=by have:=HI.out.en;unfold maxLen at this;omega
 have hgn:(gl.length:Int)≤9223372036854775807:=by have:=HI.out.gn;unfold maxLen at this;omega
 have hln:(live.length:Int)≤9223372036854775807:=by have:=HI.out.ln;unfold maxLen at this;omega
 clear I gV hR;by_cases h4:el.length≤30∧gl.length≤20∧ml.length≤20∧live.length≤50
 ·obtain⟨k1,k2,k3,k4⟩:=h4;have i1 : ¬ (30:Int)<(el.length:Int):=by omega
  have i2 : ¬ (20:Int)<(gl.length:Int):=by omega
  have i3 : ¬ (20:Int)<(ml.length:Int):=by omega
  have i4 : ¬ (50:Int)<(live.length:Int):=by omega
  have HR2:Hid (R=((el.all fun x=>fewE x.p)&&gl.all fun g=>fewG g.p)):=(show _=_ by rw[HR.out];unfold fewM;rw[decide_eq_true ⟨k1,k2,k3,k4⟩];rfl)
  clear HR;go_enter func9,ntmps9;go_wp2_with fail;go_loop [3] (fun i=>∃ k:Nat,k≤el.length∧i=.int .i64 k∧Hid ((el.take k).all (fun x=>fewE x.p)=true)) (fun i=>el.length-(intOf i).toNat);case atStart=>exact⟨0,Nat.zero_le _,rfl,(show _=_ from rfl)⟩
  case round =>
   obtain⟨k,hk,rfl,HA⟩:=hrel;by_cases hlt:k<el.length
   ·have hltI:(k:Int)<(el.length:Int):=by omega
    obtain⟨g,o,ha,hg,hcl⟩:∃ g o,ea=some ⟨g,o,none⟩∧g<V.heap.size∧∀ i (h:i<el.length),Be V g (o+i*10) el[i]:=by
     rcases HI.out.e with e|h
     ·rw[e]at hlt;cases hlt
     ·exact h
    have hbe:=hcl k hlt;have e2:V.cell? ⟨g,o+k*10+2,none⟩=some (.slice el[k].ta el[k].p.lt.length el[k].tc):=hbe 2 _ rfl;have e3:V.cell? ⟨g,o+k*10+3,none⟩=some (.slice el[k].aa el[k].p.la.length el[k].ca):=hbe 3 _ rfl;have e4:V.cell? ⟨g,o+k*10+4,none⟩=some (.slice el[k].aw el[k].p.lw.length el[k].cw):=hbe 4 _ rfl;have HS:Hid ((el.take (k+1)).all (fun x=>fewE x.p)=((el.take k).all (fun x=>fewE x.p)&&fewE el[k].p)):=allq_snoc (fun x:Fe=>fewE x.p) el k hlt;have HF:Hid (fewE el[k].p=false→R=false):=(show _→_ from fun h=>by rw[HR2.out,allq_at k hlt h];rfl)
    have HE:Hid (fewE el[k].p=(decide (el[k].p.lt.length≤20)&&(decide (el[k].p.la.length≤40)&&decide (el[k].p.lw.length≤40)))):=(show _=_ from rfl)
    have Hk1:Hid (k+1≤el.length):=hlt;subst ha;clear hbe hcl;generalize el[k]=x at *
    by_cases q1:x.p.lt.length≤20
    ·by_cases q2:x.p.la.length≤40
     ·by_cases q3:x.p.lw.length≤40
      ·have j1 : ¬ (20:Int)<(x.p.lt.length:Int):=by omega
       have j2 : ¬ (40:Int)<(x.p.la.length:Int):=by omega
       have j3 : ¬ (40:Int)<(x.p.lw.length:Int):=by omega
       have HA2:Hid ((el.take (k+1)).all (fun x=>fewE x.p)=true):=(show _=_ by rw[HS.out,HA.out,HE.out,decide_eq_true q1,decide_eq_true q2,decide_eq_true q3];rfl)
       clear HS HF HE HA q1 q2 q3;go_wp2_with fail;go_round;case rel=>exact⟨k+1,Hk1.out,by go_num,HA2⟩
       case measure=>have:=Hk1.out;simp[intOf];omega
      ·have j1 : ¬ (20:Int)<(x.p.lt.length:Int):=by omega
       have j2 : ¬ (40:Int)<(x.p.la.length:Int):=by omega
       have j3:(40:Int)<(x.p.lw.length:Int):=by omega
       have HRf:Hid (R=false):=HF.out (by rw[HE.out,decide_eq_false q3];simp);clear HS HF HE HA q1 q2 q3;go_wp2_with fail;go_ret;exact⟨by rw[HRf.out];rfl,HgV.out⟩
     ·have j1 : ¬ (20:Int)<(x.p.lt.length:Int):=by omega
      have j2:(40:Int)<(x.p.la.length:Int):=by omega
      have HRf:Hid (R=false):=HF.out (by rw[HE.out,decide_eq_false q2];simp);clear HS HF HE HA q1 q2;go_wp2_with fail;go_ret;exact⟨by rw[HRf.out];rfl,HgV.out⟩
    ·have j1:(20:Int)<(x.p.lt.length:Int):=by omega
     have HRf:Hid (R=false):=HF.out (by rw[HE.out,decide_eq_false q1];rfl);clear HS HF HE HA q1;go_wp2_with fail;go_ret;exact⟨by rw[HRf.out];rfl,HgV.out⟩
   ·have hkl:k=el.length:=by omega
    have HR3:Hid (R=gl.all fun g=>fewG g.p):=(show _=_ by have h:=HA.out;rw[hkl,List.take_length]at h;rw[HR2.out,h];rfl)
    have hge : ¬ (k:Int)<(el.length:Int):=by omega
    clear HA HR2 hkl hlt hk;go_wp2_with fail;go_loop [4] (fun i=>∃ k:Nat,k≤gl.length∧i=.int .i64 k∧Hid ((gl.take k).all (fun g=>fewG g.p)=true)) (fun i=>gl.length-(intOf i).toNat);case atStart=>exact⟨0,Nat.zero_le _,rfl,(show _=_ from rfl)⟩
    case round =>
     obtain⟨k,hk,rfl,HA⟩:=hrel;by_cases hlt:k<gl.length
     ·have hltI:(k:Int)<(gl.length:Int):=by omega
      obtain⟨g,o,ha,hg,hcl⟩:∃ g o,ga=some ⟨g,o,none⟩∧g<V.heap.size∧∀ i (h:i<gl.length),Gp.Cg V g (o+i*3) gl[i]:=by
       rcases HI.out.g with e|h
       ·rw[e]at hlt;cases hlt
       ·exact h
      obtain⟨_,_,e2⟩:=hcl k hlt;have HGi:Hid (Gp.GIn V gl[k]):=HI.out.gi _ (List.getElem_mem hlt);have HS:Hid ((gl.take (k+1)).all (fun g=>fewG g.p)=((gl.take k).all (fun g=>fewG g.p)&&fewG gl[k].p)):=allq_snoc (fun g:Gp.Gr=>fewG g.p) gl k hlt;have HF:Hid (fewG gl[k].p=false→R=false):=(show _→_ from fun h=>by rw[HR3.out,allq_at k hlt h])
      have HE:Hid (fewG gl[k].p=(decide (gl[k].l.length≤16)&&gl[k].l.all (fun b=>decide (b.l.length≤20)))):=(show _=_ by
       unfold fewG Gp.Gr.p;rw[List.length_map,List.all_map];rfl)
      have Hk1:Hid (k+1≤gl.length):=hlt;subst ha;clear hcl;generalize gl[k]=x at *
      obtain⟨xi,xk,xa,xl,xc⟩:=x;simp only at e2 HE HGi;by_cases q1:xl.length≤16
      ·have j1 : ¬ (16:Int)<(xl.length:Int):=by omega
       go_wp2_with fail;go_loop [5] (fun i=>∃ j:Nat,j≤xl.length∧i=.int .i64 j∧Hid ((xl.take j).all (fun b=>decide (b.l.length≤20))=true)) (fun i=>xl.length-(intOf i).toNat);case atStart=>exact⟨0,Nat.zero_le _,rfl,(show _=_ from rfl)⟩
       case round =>
        obtain⟨j,hj,rfl,HB⟩:=hrel;by_cases hlj:j<xl.length
        ·have hljI:(j:Int)<(xl.length:Int):=by omega
         obtain⟨g2,o2,ha2,hg2,hc2⟩:=HGi.out.bs.at hlj;obtain⟨_,_,f2⟩:=hc2 j hlj;have HS2:Hid ((xl.take (j+1)).all (fun b=>decide (b.l.length≤20))=((xl.take j).all (fun b=>decide (b.l.length≤20))&&decide (xl[j].l.length≤20))):=allq_snoc (fun b:Gp.Bk=>decide (b.l.length≤20)) xl j hlj;have HF2:Hid (decide (xl[j].l.length≤20)=false→R=false):=(show _→_ from fun h=>HF.out (by rw[HE.out,allq_at (q:=fun b:Gp.Bk=>decide (b.l.length≤20)) j hlj h];simp))
         have Hj1:Hid (j+1≤xl.length):=hlj;simp only at ha2;subst ha2;clear hc2;generalize xl[j]=b at *
         by_cases q2:b.l.length≤20
         ·have j2 : ¬ (20:Int)<(b.l.length:Int):=by omega
          have HB2:Hid ((xl.take (j+1)).all (fun b=>decide (b.l.length≤20))=true):=(show _=_ by rw[HS2.out,HB.out,decide_eq_true q2];rfl)
          clear HS2 HF2 HB q2;go_wp2_with fail;go_round;case rel=>exact⟨j+1,Hj1.out,by go_num,HB2⟩
          case measure=>have:=Hj1.out;simp[intOf];omega
         ·have j2:(20:Int)<(b.l.length:Int):=by omega
          have HRf:Hid (R=false):=HF2.out (decide_eq_false q2);clear HS2 HF2 HB q2;go_wp2_with fail;go_ret;exact⟨by rw[HRf.out];rfl,HgV.out⟩
        ·have hjl:j=xl.length:=by omega
         have HA2:Hid ((gl.take (k+1)).all (fun g=>fewG g.p)=true):=(show _=_ by
          have h:=HB.out;rw[hjl,List.take_length]at h;rw[HS.out,HA.out,HE.out,decide_eq_true q1,h];rfl)
         have hge : ¬ (j:Int)<(xl.length:Int):=by omega
         clear HB hjl hlj hj;go_wp2_with fail;go_round;case rel=>exact⟨k+1,Hk1.out,by go_num,HA2⟩
         case measure=>have:=Hk1.out;simp[intOf];omega
      ·have j1:(16:Int)<(xl.length:Int):=by omega
       have HRf:Hid (R=false):=HF.out (by rw[HE.out,decide_eq_false q1];rfl);clear HS HF HE HA q1;go_wp2_with fail;go_ret;exact⟨by rw[HRf.out];rfl,HgV.out⟩
     ·have hkl:k=gl.length:=by omega
      have HRf:Hid (R=true):=(show _=_ by have h:=HA.out;rw[hkl,List.take_length]at h;rw[HR3.out,h])
      have hge2 : ¬ (k:Int)<(gl.length:Int):=by omega
      clear HA hkl hk hlt;go_wp2_with fail;go_ret;exact⟨by rw[HRf.out];rfl,HgV.out⟩
 ·have HRf:Hid (R=false):=(show _=_ by rw[HR.out];unfold fewM;rw[decide_eq_false h4];rfl)
  clear HR;have hw:(30:Int)<(el.length:Int)∨(¬ (30:Int)<(el.length:Int)∧(20:Int)<(gl.length:Int))∨(¬ (30:Int)<(el.length:Int)∧¬ (20:Int)<(gl.length:Int)∧(20:Int)<(ml.length:Int))∨(¬ (30:Int)<(el.length:Int)∧¬ (20:Int)<(gl.length:Int)∧¬ (20:Int)<(ml.length:Int)∧(50:Int)<(live.length:Int)):=by omega
  clear h4;rcases hw with h1|⟨h1,h2⟩|⟨h1,h2,h3⟩|⟨h1,h2,h3,h4⟩
  all_goals
   go_enter func9,ntmps9;go_wp2_with fail;go_ret;exact⟨by rw[HRf.out];rfl,HgV.out⟩
theorem Pt.ev {w0 w:World} {p:Tp} {f:Nat} {S:Nat→Prop} {P:Nat→List Fp} {tb mb:Nat} {L:List Gp.Gr} {MB:Nat→Prop} {lo:Nat} {Q:Mq} {live:List Bool} (h:Pt w0 w p f S P tb mb L MB lo Q) (hP:∀ u,∀ x∈P u,wrongE x=0)
 (lv:Gp.Ls w0 p.la live) (ln:p.ln=live.length) (le:live.length≤1000) (p0 : -9223372036854775808≤p.pick) (p1:p.pick≤9223372036854775807):Ev lo lo w p f S 256 P tb mb 64 L live MB:=by
 refine⟨h.pf,h.fs,fun b hb=>⟨(h.fb b hb).2,fun e=>by have:=(h.mo.bd b e).1;have:=(h.fb b hb).2;omega⟩,fun u _=>hP u,⟨h.pg,h.tbl,h.l1.2,h.l2.2,fun g hg b hb=>(h.l3 g hg b hb).2,ln,lv.below h.bel,fun hn g o e => ?_,le,p0,p1⟩,Nat.le_refl _⟩;rcases lv with e1|⟨g',o',e1,hg,_⟩
 ·exact absurd e1 hn
 ·rw[e]at e1;cases e1;have:=h.lo.1;omega
def awP:Fp:=⟨0,0,[],[],[(1,0,2)],false,0,0,0,0⟩
def awS (n:Int):Mt.Sn:=⟨n,0,0,0,0,34997,0,0,0,0,0,0,⟨#[104,105]⟩⟩
theorem aw_sw (n:Int):Sw (awS n):=by
 refine⟨⟨?_,?_,?_,?_,?_,?_⟩,⟨?_,?_,?_,?_,?_,?_,?_,?_⟩,?_⟩<;>first|(simp[awS,Mt.Sn.pk];done)|(show(⟨#[104,105]⟩:ByteArray).size≤3000;decide)
theorem aw_run1:runV (allFP [awP]) (Gp.allGP []) [false,true,true] 0 (awS 1) []=([(2,(awS 1).pk)],[]):=by kernel_rfl
theorem aw_run2:runV (allFP [awP]) (Gp.allGP []) [false,true,true] 0 (awS 2) []=([],[]):=by kernel_rfl
abbrev awX (b:Nat):Fe:=⟨awP,none,0,none,0,some ⟨b,0,none⟩,1⟩
theorem aw_mi (w V:World) (hd:Cd w) (hV:((w.alloc (.cells #[.int .i64 1,.int .i64 0,.int .u64 2] 95)).alloc (.cells (feC (awX w.heap.size)) 76)).alloc (.cells #[.bool false,.bool true,.bool true] 4)=V) :
 Mi V (some ⟨w.heap.size+1,0,none⟩) [awX w.heap.size] none [] none [] (some ⟨w.heap.size+1+1,0,none⟩) [false,true,true]:=by
 have g:Below w.heap.size w V:=by rw[← hV];go_grown
 have z:V.heap.size=w.heap.size+3:=by rw[← hV];simp
 have ha:Ts V (some ⟨w.heap.size,0,none⟩) [(1,0,2)]:=by
  refine .inr ⟨w.heap.size,0,rfl,by omega,fun i hi => ?_⟩;obtain rfl:i=0:=by simpa using hi
  have h1:=C3.new w (1,0,2);have e:(tx w (1,0,2)).heap.size=w.heap.size+1:=by simp
  have h2:Below (w.heap.size+1) (tx w (1,0,2)) V:=by rw[← hV,← e];go_grown
  exact h1.below (by omega) h2
 refine⟨.inr ⟨w.heap.size+1,0,rfl,by omega,fun i hi => ?_⟩,fun y hy => ?_,by unfold maxLen;simp,.inl rfl,fun y hy=>(by cases hy),by unfold maxLen;simp,.inl rfl,by simp,.inr ⟨w.heap.size+1+1,0,rfl,by omega,fun i hi => ?_⟩,by unfold maxLen;simp,hd.below g⟩
 ·obtain rfl:i=0:=by simpa using hi
  have h1:=Be.new (w.alloc (.cells #[.int .i64 1,.int .i64 0,.int .u64 2] 95)) (awX w.heap.size);have e:(w.alloc (.cells #[.int .i64 1,.int .i64 0,.int .u64 2] 95)).heap.size=w.heap.size+1:=by simp
  rw[e]at h1;rw[← hV];exact h1.below (B:=w.heap.size+2) (by omega) (by
   have e2:((w.alloc (.cells #[.int .i64 1,.int .i64 0,.int .u64 2] 95)).alloc (.cells (feC (awX w.heap.size)) 76)).heap.size=w.heap.size+2:=by simp
   rw[← e2];go_grown)
 ·obtain rfl:=List.mem_singleton.1 hy;refine⟨.inl rfl,.inl rfl,ha,by simp[awP],by unfold maxLen;simp[awP],by unfold maxLen;simp[awP],by unfold maxLen;simp[awP],fun t ht=>(by cases ht),fun t ht=>(by cases ht),fun t ht => ?_,by simp[awP],by simp[awP],by simp[awP],by simp[awP],by simp[awP],by simp[awP]⟩;obtain rfl:=List.mem_singleton.1 ht;exact⟨by simp,by simp,by simp,by simp⟩
 ·have:i=0∨i=1∨i=2:=by have:i<3:=hi;omega
  obtain⟨U,hU⟩:∃ U,(w.alloc (.cells #[.int .i64 1,.int .i64 0,.int .u64 2] 95)).alloc (.cells (feC (awX w.heap.size)) 76)=U:=⟨_,rfl⟩
  have e:U.heap.size=w.heap.size+1+1:=by rw[← hU];simp
  have h:=range_new U #[.bool false,.bool true,.bool true] 4;rw[hU]at hV;rw[hV,e]at h;rcases this with rfl|rfl|rfl
  ·exact h 0 _ rfl
  ·exact h 1 _ rfl
  ·exact h 2 _ rfl
abbrev SA (g b:Nat) (p:Tp) (w:World):Prop :=
 w.cell? ⟨g,0,none⟩=some (.int .i64 2)∧w.cell? ⟨g,1,none⟩=some (.int .u64 0)∧w.cell? ⟨g,2,none⟩=some (.int .u64 0)∧w.cell? ⟨g,3,none⟩=some (.int .i64 0)∧w.cell? ⟨g,4,none⟩=some (.int .i64 34997)∧w.cell? ⟨g,5,none⟩=some (.int .u32 0)∧w.cell? ⟨g,6,none⟩=some (.int .u32 0)∧w.cell? ⟨g,7,none⟩=some (.int .i64 0)∧w.cell? ⟨g,8,none⟩=some (.int .i64 0)∧w.cell? ⟨g,9,none⟩=some (.int .i64 0)∧w.cell? ⟨g,10,none⟩=some (.int .i64 0)∧w.cell? ⟨g,11,none⟩=some (.string ⟨#[104,105]⟩)∧w.cell? ⟨b,0,none⟩=some (.pointer p.f)∧w.cell? ⟨b,1,none⟩=some (.pointer p.g)∧w.cell? ⟨b,2,none⟩=some (.slice p.ma p.mn p.mc)∧w.cell? ⟨b,3,none⟩=some (.slice p.la p.ln p.lc)∧w.cell? ⟨b+1,0,none⟩=some (.int .u64 0)∧w.cell? ⟨b+1,1,none⟩=some (.int .u64 0)∧w.cell? ⟨b+1,2,none⟩=some (.int .i64 0)∧w.cell? ⟨b+1,3,none⟩=some (.int .i64 34997)∧w.cell? ⟨b+1,4,none⟩=some (.int .u32 0)∧w.cell? ⟨b+1,5,none⟩=some (.int .u32 0)∧w.cell? ⟨b+1,6,none⟩=some (.int .i64 0)∧w.cell? ⟨b+1,7,none⟩=some (.int .i64 0)∧w.cell? ⟨b+1,8,none⟩=some (.int .i64 0)∧w.cell? ⟨b+1,9,none⟩=some (.int .i64 0)∧w.cell? ⟨b+1,10,none⟩=some (.string ⟨#[104,105]⟩)
theorem SA.stay {g b:Nat} {p:Tp} {w w':World} (h:SA g b p w) (e1:w'.heap[g]? = w.heap[g]?) (e2:w'.heap[b]? = w.heap[b]?) (e3:w'.heap[b+1]? = w.heap[b+1]?):SA g b p w':=by
 have f1:∀ o,w'.cell? ⟨g,o,none⟩=w.cell? ⟨g,o,none⟩:=fun o=>World.cell?_of_block (w:=w) e1;have f2:∀ o,w'.cell? ⟨b,o,none⟩=w.cell? ⟨b,o,none⟩:=fun o=>World.cell?_of_block (w:=w) e2;have f3:∀ o,w'.cell? ⟨b+1,o,none⟩=w.cell? ⟨b+1,o,none⟩:=fun o=>World.cell?_of_block (w:=w) e3;unfold SA;simp only[f1,f2,f3];exact h
theorem awake_any (w:World) (hd:Cd w):Calls prog 10 #[] w fun e w'=>e=.returned (.bool true)∧Below w.heap.size w w':=by
 obtain⟨V,hV⟩:∃ V,((w.alloc (.cells #[.int .i64 1,.int .i64 0,.int .u64 2] 95)).alloc (.cells (feC (awX w.heap.size)) 76)).alloc (.cells #[.bool false,.bool true,.bool true] 4)=V:=⟨_,rfl⟩
 have gV:Below w.heap.size w V:=by rw[← hV];go_grown
 have HMi:=aw_mi w V hd hV;have HP:Hid _:=parts_any (some ⟨w.heap.size+1,0,none⟩) [awX w.heap.size] 1 none [] 0 none [] 0 (some ⟨w.heap.size+1+1,0,none⟩) [false,true,true] 3 0 V HMi;have HL:Hid (Gp.Ls V (some ⟨w.heap.size+1+1,0,none⟩) [false,true,true]):=HMi.l;have HgV:Hid (Below w.heap.size w V):=gV;have HV:Hid (((w.alloc (.cells #[.int .i64 1,.int .i64 0,.int .u64 2] 95)).alloc (.cells #[.int .i64 0,.int .i64 0,.slice none 0 0,.slice none 0 0,.slice (some ⟨w.heap.size,0,none⟩) 1 1,.bool false,.int .u64 0,.int .u64 0,.int .i64 0,.int .i64 0] 76)).alloc (.cells #[.bool false,.bool true,.bool true] 4)=V):=hV;clear hd gV HMi hV;go_enter func10,ntmps10;go_wp2_with fail;rw[HV.out];refine Calls.mono HP.out ?_;rintro e w1 ⟨p,rfl,hpt⟩;have HPt:Hid (PtR V w1 (allFP [awP]) (Gp.allGP []) [] (some ⟨w.heap.size+1+1,0,none⟩) 3 3 0 p):=hpt;obtain⟨f,S,tb,mb,L,MB,lo,Q,hPt,hL,hQ,pla,pln,plc,ppk⟩:=hpt;have hEv:Ev lo lo w1 p f S 256 (allFP [awP]) tb mb 64 L [false,true,true] MB:=hPt.ev (allFP_right _) (by rw[pla];exact HL.out) pln (by simp) (by rw[ppk];decide) (by rw[ppk];decide);obtain⟨W,hW⟩:∃ W,(w1.alloc (.cells (ptC p) 33)).alloc (.cells (Fr.pkC (awS 1).pk) 47)=W:=⟨_,rfl⟩
 have gW:Below w1.heap.size w1 W:=by rw[← hW];go_grown
 have zW:W.heap.size=w1.heap.size+2:=by rw[← hW];simp
 have hlo:=hPt.lo;have hrun:∀ n:Int,∀ (X:World) (Q':Mq),Below lo w1 X→Mo MB lo w1.heap.size X p Q'→Mq.ms Q'=[]→w1.heap.size≤X.heap.size→Calls prog 14 #[ptV p,Mt.snV (awS n),.int .i64 0] X fun e w'=>∃ v' Q'',e=.returned v'∧OwnO X.heap.size w' v' (runV (allFP [awP]) (Gp.allGP []) [false,true,true] 0 (awS n) []).1∧Mq.ms Q''=(runV (allFP [awP]) (Gp.allGP []) [false,true,true] 0 (awS n) []).2∧Mo MB lo w1.heap.size w' p Q''∧Kpt MB X w':=by
  intro n X Q' gX mX hms hz;have h:=run_any lo w1.heap.size p f S 256 (allFP [awP]) tb mb 64 L [false,true,true] MB (awS n) Q' X ((hEv.low gX).up hlo.2) mX (by omega) hz (aw_sw n);rw[hL,hms,ppk]at h;exact h.mono fun e w' ⟨v',Q'',h1,h2,_,h3,h4,h5⟩=>⟨v',Q'',h1,h2,h3,h4,h5⟩
 have HRun:Hid _:=hrun;have HE:Hid (Mo MB lo w1.heap.size w1 p Q∧Mq.ms Q=[]∧lo≤w1.heap.size∧V.heap.size≤lo∧Below V.heap.size V w1):=(show _∧_ from⟨hPt.mo,hQ,hlo.2,hlo.1,hPt.bel⟩)
 have HgW:Hid (Below w1.heap.size w1 W∧W.heap.size=w1.heap.size+2):=(show _∧_ from⟨gW,zW⟩)
 have HW:Hid ((w1.alloc (.cells (ptC p) 33)).alloc (.cells #[.int .u64 0,.int .u64 0,.int .i64 0,.int .i64 34997,.int .u32 0,.int .u32 0,.int .i64 0,.int .i64 0,.int .i64 0,.int .i64 0,.string ⟨#[104,105]⟩] 47)=W):=hW;clear hPt hEv hlo hrun gW zW hW HP HV hL hQ pla pln plc ppk HPt HL;go_wp2_with fail;rw[HW.out];refine Calls.mono (HRun.out 1 W Q (HgW.out.1.mono HE.out.2.2.1) (HE.out.1.low HgW.out.1) HE.out.2.1 HgW.out.1.size) ?_;rintro e w2 ⟨v2,Q2,rfl,hO2,hQ2,M2,K2⟩;rw[aw_run1]at hO2 hQ2;obtain⟨g,cap,hv,hg1,hg2⟩:∃ g cap,v2=.slice (some ⟨g,0,none⟩) 1 cap∧W.heap.size≤g∧g<w2.heap.size:=by
  rcases hO2.2 with⟨_,h'⟩|⟨g,cap,cur,h',hb,_⟩
  ·cases h'
  ·exact⟨g,cap,h',hb,(hO2.lt g (by rw[h'];rfl)).2⟩
 subst hv;have hzW:=HgW.out.2;have hbd:∀ b,MB b→lo≤b∧b<w1.heap.size:=M2.bd;have hc2:∀ j,j<12→w2.cell? ⟨g,j,none⟩=(flatO [(2,(awS 1).pk)])[j]?:=fun j hj=>hO2.cellAt j hj;have kw:∀ b,w1.heap.size≤b→b<W.heap.size→w2.heap[b]? = W.heap[b]?:=fun b h1 h2=>K2.block b h2 (fun e=>by have:=(hbd b e).2;omega);have hWc:SA g w1.heap.size p w2:=by
  have hp:W.rangeAt w1.heap.size 0 (ptC p).toList:=by
   rw[← HW.out];have h1:=range_new w1 (ptC p) 33;exact range_block h1 (heap_alloc_old _ _ (by simp))
  have hq:W.rangeAt (w1.heap.size+1) 0 (Fr.pkC (awS 1).pk).toList:=by
   have h1:=range_new (w1.alloc (.cells (ptC p) 33)) (Fr.pkC (awS 1).pk) 47;have e:(w1.alloc (.cells (ptC p) 33)).heap.size=w1.heap.size+1:=by simp
   rw[e]at h1;rw[← HW.out];exact h1
  have k1:∀ o,w2.cell? ⟨w1.heap.size,o,none⟩=W.cell? ⟨w1.heap.size,o,none⟩:=fun o=>World.cell?_of_block (w:=W) (kw w1.heap.size (Nat.le_refl _) (by omega));have k2:∀ o,w2.cell? ⟨w1.heap.size+1,o,none⟩=W.cell? ⟨w1.heap.size+1,o,none⟩:=fun o=>World.cell?_of_block (w:=W) (kw (w1.heap.size+1) (by omega) (by omega));have p1:∀ o v,(ptC p).toList[o]? = some v→w2.cell? ⟨w1.heap.size,o,none⟩=some v:=fun o v hv=>by rw[k1];have:=hp o v hv;rwa [Nat.zero_add]at this
  have p2:∀ o v,(Fr.pkC (awS 1).pk).toList[o]? = some v→w2.cell? ⟨w1.heap.size+1,o,none⟩=some v:=fun o v hv=>by rw[k2];have:=hq o v hv;rwa [Nat.zero_add]at this
  exact⟨hc2 0 (by omega),hc2 1 (by omega),hc2 2 (by omega),hc2 3 (by omega),hc2 4 (by omega),hc2 5 (by omega),hc2 6 (by omega),hc2 7 (by omega),hc2 8 (by omega),hc2 9 (by omega),hc2 10 (by omega),hc2 11 (by omega),p1 0 _ rfl,p1 1 _ rfl,p1 2 _ rfl,p1 3 _ rfl,p2 0 _ rfl,p2 1 _ rfl,p2 2 _ rfl,p2 3 _ rfl,p2 4 _ rfl,p2 5 _ rfl,p2 6 _ rfl,p2 7 _ rfl,p2 8 _ rfl,p2 9 _ rfl,p2 10 _ rfl⟩
 have HSA:Hid (SA g w1.heap.size p w2):=hWc;have g12:Below lo w1 w2:=(HgW.out.1.mono HE.out.2.2.1).trans (K2.below (by have:=HE.out.2.2.1;omega) (fun k hk=>(hbd k hk).1));have HR2:Hid _:=HRun.out 2 w2.drew Q2 g12.drew (M2.low (Below.refl _ w2).drew) hQ2 (by have:=K2.size;show w1.heap.size≤w2.heap.size;omega);have HK:Hid (∀ w3,Kpt MB w2.drew w3→SA g w1.heap.size p w3∧Below w.heap.size w w3):=(show ∀ w3,_ from fun w3 K3=>by
  have hz2:=K2.size;have k3:∀ b,w1.heap.size≤b→b<w2.heap.size→w3.heap[b]? = w2.heap[b]?:=fun b h1 h2=>K3.block b h2 (fun e=>by have:=(hbd b e).2;omega);refine⟨hWc.stay (k3 g (by omega) hg2) (k3 _ (Nat.le_refl _) (by omega)) (k3 _ (by omega) (by omega)),?_⟩;have gv:=HgV.out.size;have g1:Below lo w1 w3:=g12.drew.trans (K3.below (by have:=HE.out.2.2.1;show lo≤w2.heap.size;omega) (fun k hk=>(hbd k hk).1));exact(HgV.out.trans (HE.out.2.2.2.2.mono gv)).trans (g1.mono (by have:=HE.out.2.2.2.1;omega)))
 clear hO2 hQ2 M2 K2 hbd hc2 kw hWc g12 HRun HE HgW HW hzW hg1 hg2;go_wp2_with fail;go_region_held (SA g w1.heap.size p) (first|exact HSA.out|exact(HK.out _ K3.out).1|assumption) ((go_at_call 14;refine Calls.mono HR2.out ?_;rintro e w3 ⟨v3,Q3,rfl,hO3,hQ3,M3,k3⟩;have K3:Hid (Kpt MB w2.drew w3):=k3;rw[aw_run2]at hO3;obtain⟨a3,c3,rfl⟩:=own_sl hO3;clear hO3 hQ3 M3 k3));go_wp2_with fail;go_ret;exact⟨rfl,(HK.out _ K3.out).2⟩
def OkO (live:List Bool) (D:ByteArray) (T:Int) (O:List Ot):Prop:=∀ o∈O,portB live o.1=true∧o.2.data=D∧o.2.ty=T
abbrev Is (D:ByteArray) (T:Int) (s:Mt.Sn):Prop:=s.data=D∧s.ty=T
theorem Is.change {D:ByteArray} {T:Int} {s:Mt.Sn} {a:A} (hs:Is D T s) (ha:AW a):Is D T (Fd.changeV s a):=⟨(change_data s a ha).1.trans hs.1,(change_data s a ha).2.trans hs.2⟩
end Go.Proofs.YtgnihbdcdefdgaaGreatDoor

import Derived.Test.YtgnihbdcdefdgaaGreatDoorX01
import Derived.WalkKit
import Derived.ProofKit
import Derived.OpenShut
import Derived.ShutString
import Derived.ChangeOld
import Derived.Below
import Derived.LaidMore
import Derived.Stop.Joined
import Derived.Deep.Slices
import Derived.Test.YtgnihbdcdefdgaaGreatDoorX19
import Derived.Deep.QuietTactic
import Derived.BigQuiet
set_option maxRecDepth 100000
set_option linter.unusedSimpArgs false
set_option linter.unusedVariables false
open Go.ChangeShapes Go.WideShapes Go.ChangeAt Go.RowKit
open Go.Proofs.Tryz
namespace Go.Proofs.YtgnihbdcdefdgaaGreatDoor
theorem own:ownKnob prog.godebug=none:=by kernel_rfl
theorem laidOut:laidOutB prog=true:=by kernel_rfl
theorem gKinds:prog.globalNamed ((Rows.pipeNoneRow.named.drop 1).headD "")=some 0:=by kernel_rfl
theorem gCodes:prog.globalNamed (Rows.pipeNoneRow.named.headD "")=some 1:=by kernel_rfl
theorem tKinds:(prog.globals[0]?).map (·.type)=some 265:=by kernel_rfl
theorem tCodes:(prog.globals[1]?).map (·.type)=some 289:=by kernel_rfl
theorem cellsKind:prog.cellsOf 264=3:=by kernel_rfl
theorem cellsKinds:prog.cellsOf 265=15:=by kernel_rfl
theorem cellsCode:prog.cellsOf 288=2:=by kernel_rfl
theorem cellsCodes:prog.cellsOf 289=10:=by kernel_rfl
theorem cellsInt:prog.cellsOf 3=1:=by kernel_rfl
theorem cellsAct:prog.cellsOf 95=3:=by kernel_rfl
theorem cellsU:prog.cellsOf 44=1:=by kernel_rfl
abbrev laidL:List (String × DataW Unit):=Rows.pipeNoneRow.laid
theorem kind_cells {W:World} {cs:List Value} {p:List MemPlace} {m:Nat} {a b c:Int} (h:DataW.trod (fun _=>()) prog W 0 (fun _=>true) false m 264 cs=some (.agg [.lit (.int .i64 a),.lit (.int .i64 b),.lit (.int .i64 c)],p)) :
 cs=[.int .i64 a,.int .i64 b,.int .i64 c]:=by
 obtain⟨xs,k,_,hxy,hcl,hxl,hf⟩:=DataW.trod_struct underlying264 h;rw[cellsKind]at hcl;match xs,hxl,cs,hcl with
 | [y0,y1,y2],_,[v0,v1,v2],_ =>
   have g0:=hf 0 _ rfl;have g1:=hf 1 _ rfl;have g2:=hf 2 _ rfl;simp[cellsInt]at g0 g1 g2;obtain⟨n0,e0,d0,_⟩:=DataW.trod_int underlying3 g0;obtain⟨n1,e1,d1,_⟩:=DataW.trod_int underlying3 g1;obtain⟨n2,e2,d2,_⟩:=DataW.trod_int underlying3 g2;subst d0 d1 d2;simp at e0 e1 e2 hxy;obtain⟨⟨rfl,rfl,rfl⟩,_⟩:=hxy;rw[e0,e1,e2]
theorem code_cells {W:World} {cs:List Value} {p:List MemPlace} {m:Nat} {a b:Int} (h:DataW.trod (fun _=>()) prog W 0 (fun _=>true) false m 288 cs=some (.agg [.lit (.int .i64 a),.lit (.int .i64 b)],p)) :
 cs=[.int .i64 a,.int .i64 b]:=by
 obtain⟨xs,k,_,hxy,hcl,hxl,hf⟩:=DataW.trod_struct underlying288 h;rw[cellsCode]at hcl;match xs,hxl,cs,hcl with
 | [y0,y1],_,[v0,v1],_ =>
   have g0:=hf 0 _ rfl;have g1:=hf 1 _ rfl;simp[cellsInt]at g0 g1;obtain⟨n0,e0,d0,_⟩:=DataW.trod_int underlying3 g0;obtain⟨n1,e1,d1,_⟩:=DataW.trod_int underlying3 g1;subst d0 d1;simp at e0 e1 hxy;obtain⟨⟨rfl,rfl⟩,_⟩:=hxy;rw[e0,e1]
theorem cd_of_laid {W:World} (h:laidMetH prog laidL W):Cd W:=by
 rw[MakeChecks.laidMetH_plain _ _ _ (by kernel_rfl)]at h;obtain⟨ps,⟨g0,t0,cs0,f0,p0,q0,hg0,ht0,hv0,hd0,⟨g1,t1,cs1,f1,p1,q1,hg1,ht1,hv1,hd1,_,_⟩,_⟩,_,_⟩:=h;obtain rfl:=Option.some.inj (gKinds.symm.trans hg0);obtain rfl:=Option.some.inj (tKinds.symm.trans ht0);obtain rfl:=Option.some.inj (gCodes.symm.trans hg1);obtain rfl:=Option.some.inj (tCodes.symm.trans ht1);constructor
 ·clear hd1 hv1 hg1 ht1;obtain⟨xs,m1,rfl,hx1,hlen,hn,hel⟩:=DataW.trod_array underlying265 hd0;rw[cellsKinds]at hlen;rw[cellsKind]at hel;have hx:=(Prod.mk.inj hx1).1;unfold Rows.laid_drover_act_kinds at hx;simp only[DataW.agg.injEq]at hx;have at_:∀ (i:Nat) (d:DataW Unit),i<5→(xs.map (fun x=>x.fst))[i]? = some d→∃ p,DataW.trod (fun _=>()) prog W 0 (fun _=>true) false m1 264 (List.take 3 (List.drop (i*3) cs0.toList))=some (d,p):=by
   intro i d hi hd;rw[List.getElem?_map,Option.map_eq_some_iff]at hd;obtain⟨y,hy,rfl⟩:=hd;exact⟨y.2,(hel i hi).trans hy⟩
  rw[← hx]at at_;have key:cs0.toList=kindsA.toList:=by
   generalize cs0.toList=L at *
   have step:∀ i,L.drop (i*3)=(L.drop (i*3)).take 3++L.drop ((i+1)*3):=fun i=>by
    have:=(List.take_append_drop 3 (L.drop (i*3))).symm;rwa [List.drop_drop,show i*3+3=(i+1)*3 by omega]at this
   have s0:=step 0;rw[kind_cells (at_ 0 _ (by decide) rfl).choose_spec]at s0;have s1:=step 1;rw[kind_cells (at_ 1 _ (by decide) rfl).choose_spec]at s1;have s2:=step 2;rw[kind_cells (at_ 2 _ (by decide) rfl).choose_spec]at s2;have s3:=step 3;rw[kind_cells (at_ 3 _ (by decide) rfl).choose_spec]at s3;have s4:=step 4;rw[kind_cells (at_ 4 _ (by decide) rfl).choose_spec]at s4;have s5:L.drop (5*3)=[]:=List.drop_of_length_le (by omega);have z:L=L.drop (0*3):=rfl;rw[z,s0,s1,s2,s3,s4,s5];rfl
  have e:cs0=kindsA:=Array.toList_inj.1 key;subst e;simp only[World.var?,hg0,Option.bind_some]at hv0;split at hv0
  ·rename_i c t fr hb;cases hv0;exact⟨t,fr,hb⟩
  ·cases hv0
 ·clear hd0 hv0 hg0 ht0;obtain⟨xs,m1,rfl,hx1,hlen,hn,hel⟩:=DataW.trod_array underlying289 hd1;rw[cellsCodes]at hlen;rw[cellsCode]at hel;have hx:=(Prod.mk.inj hx1).1;unfold Rows.laid_drover_act_codes at hx;simp only[DataW.agg.injEq]at hx;have at_:∀ (i:Nat) (d:DataW Unit),i<5→(xs.map (fun x=>x.fst))[i]? = some d→∃ p,DataW.trod (fun _=>()) prog W 0 (fun _=>true) false m1 288 (List.take 2 (List.drop (i*2) cs1.toList))=some (d,p):=by
   intro i d hi hd;rw[List.getElem?_map,Option.map_eq_some_iff]at hd;obtain⟨y,hy,rfl⟩:=hd;exact⟨y.2,(hel i hi).trans hy⟩
  rw[← hx]at at_;have key:cs1.toList=codesA.toList:=by
   generalize cs1.toList=L at *
   have step:∀ i,L.drop (i*2)=(L.drop (i*2)).take 2++L.drop ((i+1)*2):=fun i=>by
    have:=(List.take_append_drop 2 (L.drop (i*2))).symm;rwa [List.drop_drop,show i*2+2=(i+1)*2 by omega]at this
   have s0:=step 0;rw[code_cells (at_ 0 _ (by decide) rfl).choose_spec]at s0;have s1:=step 1;rw[code_cells (at_ 1 _ (by decide) rfl).choose_spec]at s1;have s2:=step 2;rw[code_cells (at_ 2 _ (by decide) rfl).choose_spec]at s2;have s3:=step 3;rw[code_cells (at_ 3 _ (by decide) rfl).choose_spec]at s3;have s4:=step 4;rw[code_cells (at_ 4 _ (by decide) rfl).choose_spec]at s4;have s5:L.drop (5*2)=[]:=List.drop_of_length_le (by omega);have z:L=L.drop (0*2):=rfl;rw[z,s0,s1,s2,s3,s4,s5];rfl
  have e:cs1=codesA:=Array.toList_inj.1 key;subst e;simp only[World.var?,hg1,Option.bind_some]at hv1;split at hv1
  ·rename_i c t fr hb;cases hv1;exact⟨t,fr,hb⟩
  ·cases hv1
theorem door_met (os:Os) (args:Array Value):laidMetH prog laidL ((World.doorLaid prog 400 os).forCall (fun _ _=>0) ⟨#[],args,[]⟩).memory :=
 laidMetH_of_parts3 (fuel:=8) (laidMet_of_run' 8 (by kernel_rfl) (by kernel_rfl)) (by kernel_rfl) (by kernel_rfl)
theorem plain (g o j:Nat):(⟨g,o,none⟩:Addr).add j=⟨g,o+j,none⟩:=by unfold Addr.add;split<;>simp_all
theorem wf_u64 {n:Int} (h:(Lit.int .u64 n).wf=true):0≤n∧n<18446744073709551616:=by
 simp[Lit.wf,IntKind.min,IntKind.max,IntKind.signed,IntKind.bits]at h;omega
theorem wf_i64 {n:Int} (h:(Lit.int .i64 n).wf=true) : -9223372036854775808≤n∧n<9223372036854775808:=by
 simp[Lit.wf,IntKind.min,IntKind.max,IntKind.signed,IntKind.bits]at h;omega
theorem acts_of {H:Type} {enc:TypeId × Value→H} {W:World} {a:Option Addr} {len cap fuel:Nat} {x:DataW H × List MemPlace} (hlt:∀ p∈x.2,p.block<W.heap.size)
 (h:DataW.trod enc prog W 0 (fun _=>true) true fuel 63 [.slice a len cap]=some x):∃ l:List A,l.length=len∧Ts W a l∧AWs l∧len≤cap∧len≤maxLen:=by
 rcases Deep.open_slice underlying63 h with⟨hcs,_⟩|⟨ad,ln,cp,m,n,D,Pl,hcs,hb,hl,hm,hmm,hx,hel⟩
 ·simp at hcs;exact⟨[],hcs.2.1.symm,.inl rfl,by simp,by omega,by unfold maxLen;omega⟩
 ·simp at hcs;obtain⟨rfl,rfl,rfl⟩:=hcs;have hm':m=cap:=by simpa using hmm
  subst hm';have one:∀ i,i<len→∃ t:A,W.cell? (ad.add (i*3))=some (.int .i64 t.1)∧W.cell? (ad.add (i*3+1))=some (.int .i64 t.2.1)∧W.cell? (ad.add (i*3+2))=some (.int .u64 t.2.2)∧AW t:=by
   intro i hi;obtain⟨cs',h1,h2⟩:=hel i (by omega);rw[cellsAct]at h1;obtain⟨_,hlen,hcell⟩:=World.cells?_some h1;obtain⟨xs,k,hk,hxy,_,hxl,hf⟩:=DataW.trod_struct underlying95 h2;match xs,hxl,cs',hlen with
   | [y0,y1,y2],_,[v0,v1,v2],_ =>
     have g0:=hf 0 _ rfl;have g1:=hf 1 _ rfl;have g2:=hf 2 _ rfl;simp[cellsInt,cellsU]at g0 g1 g2;obtain⟨n0,e0,d0,r0⟩:=DataW.trod_int underlying3 g0;obtain⟨n1,e1,d1,r1⟩:=DataW.trod_int underlying3 g1;obtain⟨n2,e2,d2,r2⟩:=DataW.trod_int underlying44 g2;simp at e0 e1 e2;have c0:=hcell 0 (by omega);have c1:=hcell 1 (by omega);have c2:=hcell 2 (by omega);rw[Deep.add_add]at c0 c1 c2;refine⟨(n0,n1,n2),by simpa [e0]using c0,by simpa [e1]using c1,by simpa [e2]using c2,?_⟩;obtain⟨a0,a1⟩:=wf_i64 r1;obtain⟨b0,b1⟩:=wf_u64 r2;exact⟨a0,a1,b0,b1⟩
  obtain⟨f,hf⟩:=Deep.choose_lt one;by_cases h0:len=0
  ·subst h0;exact⟨[],rfl,.inl rfl,by simp,hl,by unfold maxLen;omega⟩
  ·obtain⟨g,o,spot⟩:=ad;have hsp:spot=none:=by simpa [Addr.add]using World.cell?_spot (hf 0 (by omega)).1
   subst hsp;have hg:g<W.heap.size:=hlt (.cell g (o+0)) (by rw[hx,cellsAct];exact List.mem_append_left _ (by simp[MemPlace.row];omega));refine⟨(List.range len).map f,by simp,.inr ⟨g,o,rfl,hg,fun i hi => ?_⟩,?_,hl,by unfold maxLen at hm ⊢;omega⟩
   ·have hi':i<len:=by simpa using hi
    obtain⟨x0,x1,x2,_⟩:=hf i hi';rw[plain]at x0 x1 x2;simp only[List.getElem_map,List.getElem_range];exact⟨x0,by rw[← Nat.add_assoc]at x1;exact x1,by rw[← Nat.add_assoc]at x2;exact x2⟩
   ·intro t ht;rw[List.mem_map]at ht;obtain⟨i,hi,rfl⟩:=ht;exact(hf i (List.mem_range.1 hi)).2.2.2
def upd {α:Type} (P:Nat→α) (t:Nat) (l:α):Nat→α:=fun u=>if u=t then l else P u
theorem upd_same {α:Type} (P:Nat→α) (t:Nat) (l:α):upd P t l t=l:=if_pos rfl
theorem upd_other {α:Type} (P:Nat→α) (t:Nat) (l:α) {u:Nat} (h:u≠t):upd P t l u=P u:=if_neg h
def more (S:Nat→Prop) (w w':World):Nat→Prop:=fun b=>S b∨(w.heap.size≤b∧b<w'.heap.size)
theorem Fl.update {w w':World} {f:Nat} {S:Nat→Prop} {room:Int} {V:Nat→Value} {L:Nat→List Fe} (h:Fl w f S room V L) {t:Nat} (ht:t<8) {v':Value} {m:List Fe} (hz:w.heap.size≤w'.heap.size)
 (hk:∀ b,b<w.heap.size→b≠f→(V t).ownBlock≠some b→w'.heap[b]? = w.heap[b]?)
 (hf:∀ o,o≠1+t→w'.cell? ⟨f,o,none⟩=w.cell? ⟨f,o,none⟩) (hft:w'.cell? ⟨f,1+t,none⟩=some v') (hff:∀ o,w'.frozen? ⟨f,o,none⟩=w.frozen? ⟨f,o,none⟩)
 (hown:OwnE 0 w' v' m) (hv:v'.ownBlock=(V t).ownBlock∨∃ g,v'.ownBlock=some g∧w.heap.size≤g)
 (hm:∀ x∈m,FW w' x∧∀ b,InF x b→((∃ y∈L t,InF y b)∨w.heap.size≤b)∧v'.ownBlock≠some b) (hn:(m.length:Int)≤room) :
 Fl w' f (more S w w') room (upd V t v') (upd L t m):=by
 have hfl:f<w.heap.size:=h.lt f h.sf;have hvl:∀ u,u<8→∀ g,(V u).ownBlock=some g→g<w.heap.size:=fun u hu g hg=>h.lt g (h.sr u hu g hg).1;have hvn:∀ g,v'.ownBlock=some g→more S w w' g∧g≠f:=fun g hg=>by
  rcases hv with e|⟨g',e,hge⟩
  ·have:=h.sr t ht g (by rw[← e];exact hg);exact⟨.inl this.1,this.2⟩
  ·have e2:g=g':=by rw[hg]at e;exact Option.some.inj e
   subst e2;exact⟨.inr ⟨hge,(hown.lt g hg).2⟩,by omega⟩
 refine⟨?_,?_,fun o=>(hff o).trans (h.fz o),?_,.inl h.sf,?_,?_,?_,?_,?_,h.r1,h.r2,?_⟩
 ·rw[hf 0 (by omega)];exact h.rm
 ·intro u hu;by_cases e:u=t
  ·subst e;rw[upd_same];exact hft
  ·rw[upd_other V t v' e,hf (1+u) (by omega)];exact h.cv u hu
 ·intro u hu;by_cases e:u=t
  ·subst e;rw[upd_same,upd_same];exact hown
  ·rw[upd_other V t v' e,upd_other L t m e];have hr:=h.row u hu;refine⟨hr.1,?_⟩;rcases hr.2 with hn|⟨g',cap,cur,hvv,hb,hgg,rest⟩
   ·exact .inl hn
   ·have hgo:(V u).ownBlock=some g':=by rw[hvv];rfl
    exact .inr ⟨g',cap,cur,hvv,hb,(hk g' (hvl u hu g' hgo) (h.sr u hu g' hgo).2 (h.ap u t hu ht e g' hgo)).trans hgg,rest⟩
 ·intro u hu g hg;by_cases e:u=t
  ·subst e;rw[upd_same]at hg;exact hvn g hg
  ·rw[upd_other V t v' e]at hg;have:=h.sr u hu g hg;exact⟨.inl this.1,this.2⟩
 ·intro u1 u2 h1 h2 hne g hg;by_cases e1:u1=t
  ·subst e1;rw[upd_same]at hg;rw[upd_other V u1 v' (Ne.symm hne)];rcases hv with e|⟨g',e,hge⟩
   ·exact h.ap u1 u2 h1 h2 hne g (by rw[← e];exact hg)
   ·intro hg2;have:=hvl u2 h2 g hg2;have e2:g=g':=by rw[hg]at e;exact Option.some.inj e
    omega
  ·rw[upd_other V t v' e1]at hg;by_cases e2:u2=t
   ·subst e2;rw[upd_same];rcases hv with e|⟨g',e,hge⟩
    ·rw[e];exact h.ap u1 u2 h1 h2 hne g hg
    ·rw[e];intro hg2;have:=hvl u1 h1 g hg;have e2:g'=g:=Option.some.inj hg2;omega
   ·rw[upd_other V t v' e2];exact h.ap u1 u2 h1 h2 hne g hg
 ·intro u hu x hx;by_cases e:u=t
  ·subst e;rw[upd_same]at hx;obtain⟨x1,x2⟩:=hm x hx;refine⟨x1,fun b hb => ?_⟩;obtain⟨h1,h2⟩:=x2 b hb;rcases h1 with⟨y,hy,hyb⟩|hfr
   ·obtain⟨s1,s2,s3⟩:=(h.en u hu y hy).2 b hyb;refine⟨.inl s1,s2,fun u2 hu2 => ?_⟩;by_cases e2:u2=u
    ·subst e2;rw[upd_same];exact h2
    ·rw[upd_other V u v' e2];exact s3 u2 hu2
   ·refine⟨.inr ⟨hfr,x1.lt hb⟩,by omega,fun u2 hu2 => ?_⟩;by_cases e2:u2=u
    ·subst e2;rw[upd_same];exact h2
    ·rw[upd_other V u v' e2];intro hg2;have:=hvl u2 hu2 b hg2;omega
  ·rw[upd_other L t m e]at hx;obtain⟨x1,x2⟩:=h.en u hu x hx;refine⟨x1.stay hz (fun b hb hlt=>hk b hlt (x2 b hb).2.1 ((x2 b hb).2.2 t ht)),fun b hb => ?_⟩;obtain⟨s1,s2,s3⟩:=x2 b hb;refine⟨.inl s1,s2,fun u2 hu2 => ?_⟩;by_cases e2:u2=t
   ·subst e2;rw[upd_same];rcases hv with e'|⟨g',e',hge⟩
    ·rw[e'];exact s3 u2 hu2
    ·rw[e'];intro hg2;have e3:g'=b:=Option.some.inj hg2;have:=h.lt b s1;omega
   ·rw[upd_other V t v' e2];exact s3 u2 hu2
 ·intro b hb;rcases hb with hb|hb
  ·exact Nat.lt_of_lt_of_le (h.lt b hb) hz
  ·exact hb.2
 ·intro b hb;rcases hb with hb|hb
  ·exact h.lo b hb
  ·have:=h.lo f h.sf;omega
 ·intro u hu;by_cases e:u=t
  ·subst e;rw[upd_same];exact hn
  ·rw[upd_other L t m e];exact h.nm u hu
theorem more_sub {S:Nat→Prop} {w w':World}:∀ b,more S w w' b→S b∨w.heap.size≤b:=fun b hb=>by
 rcases hb with hb|hb
 ·exact .inl hb
 ·exact .inr hb.1
theorem kept_gby {S:Nat→Prop} {w w1 w':World} {f g:Nat} (g1:Below w.heap.size w w1) (h:w1.grownBy w' (some g)) (hg:S g):Kept S w w' :=
 ⟨h.os.trans g1.os,h.tape.trans g1.tape,h.output.trans g1.output,Nat.le_trans g1.size h.size,fun b hb hn=>(h.block b (Nat.lt_of_lt_of_le hb g1.size) (fun e=>hn (by rw[Option.some.inj e];exact hg))).trans (g1.block b hb)⟩
end Go.Proofs.YtgnihbdcdefdgaaGreatDoor

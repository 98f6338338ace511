import Derived.Test.YtgnihbdcdefdgaaGreatDoorX26
import Derived.Test.YtgnihbdcdefdgaaGreatDoorX27
import Derived.ShutString
import Derived.ChangeOld
import Derived.Below
import Derived.SizedLaws
import Derived.Carry
import Derived.Test.YtgnihbdcdefdgaaGreatDoorX22
import Derived.Test.YtgnihbdcdefdgaaGreatDoorX10
import Derived.Deep.Slices
import Derived.Test.YtgnihbdcdefdgaaGreatDoorX23
set_option maxRecDepth 100000
set_option maxHeartbeats 4000000
set_option linter.unusedSimpArgs false
set_option linter.unusedVariables false
open Go.ChangeShapes Go.WideShapes Go.ChangeAt Go.RowKit
open Go.Proofs.Tryz
namespace Go.Proofs.YtgnihbdcdefdgaaGreatDoor
theorem cellsTest:prog.cellsOf 168=3:=by kernel_rfl
theorem cellsActs:prog.cellsOf 63=1:=by kernel_rfl
theorem cellsTests:prog.cellsOf 74=1:=by kernel_rfl
theorem cellsBool:prog.cellsOf 4=1:=by kernel_rfl
theorem cellsEntry:prog.cellsOf 76=10:=by kernel_rfl
theorem mtests_of {H:Type} {enc:TypeId × Value→H} {W:World} {a:Option Addr} {len cap fuel:Nat} {x:DataW H × List MemPlace} (hlt:∀ p∈x.2,p.block<W.heap.size)
 (h:DataW.trod enc prog W 0 (fun _=>true) true fuel 74 [.slice a len cap]=some x):∃ l:List Mt.T,l.length=len∧Mt.Ts W a l∧Mt.TWs l∧len≤cap∧len≤maxLen:=by
 rcases Deep.open_slice underlying74 h with⟨hcs,_⟩|⟨ad,ln,cp,m,n,D,Pl,hcs,hb,hl,hm,hmm,hx,hel⟩
 ·simp at hcs;exact⟨[],hcs.2.1.symm,.inl rfl,by simp,by omega,by unfold maxLen;omega⟩
 ·simp at hcs;obtain⟨rfl,rfl,rfl⟩:=hcs;have hm':m=cap:=by simpa using hmm
  subst hm';have one:∀ i,i<len→∃ t:Mt.T,W.cell? (ad.add (i*3))=some (.int .i64 t.1)∧W.cell? (ad.add (i*3+1))=some (.int .u64 t.2.1)∧W.cell? (ad.add (i*3+2))=some (.int .u64 t.2.2)∧Mt.TW t:=by
   intro i hi;obtain⟨cs',h1,h2⟩:=hel i (by omega);rw[cellsTest]at h1;obtain⟨_,hlen,hcell⟩:=World.cells?_some h1;obtain⟨xs,k,hk,hxy,_,hxl,hf⟩:=DataW.trod_struct underlying168 h2;match xs,hxl,cs',hlen with
   | [y0,y1,y2],_,[v0,v1,v2],_ =>
     have g0:=hf 0 _ rfl;have g1:=hf 1 _ rfl;have g2:=hf 2 _ rfl;simp[cellsInt,cellsU]at g0 g1 g2;obtain⟨n0,e0,d0,r0⟩:=DataW.trod_int underlying3 g0;obtain⟨n1,e1,d1,r1⟩:=DataW.trod_int underlying44 g1;obtain⟨n2,e2,d2,r2⟩:=DataW.trod_int underlying44 g2;simp at e0 e1 e2;have c0:=hcell 0 (by omega);have c1:=hcell 1 (by omega);have c2:=hcell 2 (by omega);rw[Deep.add_add]at c0 c1 c2;refine⟨(n0,n1,n2),by simpa [e0]using c0,by simpa [e1]using c1,by simpa [e2]using c2,?_⟩;obtain⟨a0,a1⟩:=wf_u64 r1;obtain⟨b0,b1⟩:=wf_u64 r2;exact⟨a0,a1,b0,b1⟩
  obtain⟨f,hf⟩:=Deep.choose_lt one;by_cases h0:len=0
  ·subst h0;exact⟨[],rfl,.inl rfl,by simp,hl,by unfold maxLen;omega⟩
  ·obtain⟨g,o,spot⟩:=ad;have hsp:spot=none:=by simpa [Addr.add]using World.cell?_spot (hf 0 (by omega)).1
   subst hsp;have hg:g<W.heap.size:=hlt (.cell g (o+0)) (by rw[hx,cellsTest];exact List.mem_append_left _ (by simp[MemPlace.row];omega));refine⟨(List.range len).map f,by simp,.inr ⟨g,o,rfl,hg,fun i hi => ?_⟩,?_,hl,by unfold maxLen at hm ⊢;omega⟩
   ·have hi':i<len:=by simpa using hi
    obtain⟨x0,x1,x2,_⟩:=hf i hi';rw[plain]at x0 x1 x2;simp only[List.getElem_map,List.getElem_range];exact⟨x0,by rw[← Nat.add_assoc]at x1;exact x1,by rw[← Nat.add_assoc]at x2;exact x2⟩
   ·intro t ht;rw[List.mem_map]at ht;obtain⟨i,hi,rfl⟩:=ht;exact(hf i (List.mem_range.1 hi)).2.2.2
theorem mtests_in {H:Type} {enc:TypeId × Value→H} {W:World} {c:Value} {fuel:Nat} {x:DataW H × List MemPlace}
 (h:DataW.trod enc prog W 0 (fun _=>true) true fuel 74 [c]=some x):∃ a,∃ l:List Mt.T,∃ cap,c=.slice a l.length cap∧Mt.Ts W a l∧Mt.TWs l∧l.length≤cap∧l.length≤maxLen:=by
 have hlt:∀ p∈x.2,p.block<W.heap.size:=DataW.trod_lt fuel _ _ _ h;rcases Deep.open_slice underlying74 h with⟨hcs,_⟩|⟨ad,ln,cp,_,_,_,_,hcs,_⟩
 ·have hc:c=.slice none 0 0:=(List.cons.inj hcs).1;subst hc;exact⟨none,[],0,rfl,.inl rfl,by simp,by simp,by simp⟩
 ·have hc:c=.slice (some ad) ln cp:=(List.cons.inj hcs).1;subst hc;obtain⟨l,h1,h2,h3,h4,h5⟩:=mtests_of hlt h;exact⟨some ad,l,cp,by rw[h1],h2,h3,by rw[h1];exact h4,by rw[h1];exact h5⟩
theorem acts_in {H:Type} {enc:TypeId × Value→H} {W:World} {c:Value} {fuel:Nat} {x:DataW H × List MemPlace}
 (h:DataW.trod enc prog W 0 (fun _=>true) true fuel 63 [c]=some x):∃ a,∃ l:List A,∃ cap,c=.slice a l.length cap∧Ts W a l∧AWs l∧l.length≤maxLen:=by
 have hlt:∀ p∈x.2,p.block<W.heap.size:=DataW.trod_lt fuel _ _ _ h;rcases Deep.open_slice underlying63 h with⟨hcs,_⟩|⟨ad,ln,cp,_,_,_,_,hcs,_⟩
 ·have hc:c=.slice none 0 0:=(List.cons.inj hcs).1;subst hc;exact⟨none,[],0,rfl,.inl rfl,by simp,by simp⟩
 ·have hc:c=.slice (some ad) ln cp:=(List.cons.inj hcs).1;subst hc;obtain⟨l,h1,h2,h3,_,h5⟩:=acts_of hlt h;exact⟨some ad,l,cp,by rw[h1],h2,h3,by rw[h1];exact h5⟩
structure FIn (w:World) (x:Fe):Prop where
 t:Mt.Ts w x.ta x.p.lt
 a:Ts w x.aa x.p.la
 w:Ts w x.aw x.p.lw
 ct:x.p.lt.length≤x.tc
 nt:x.p.lt.length≤maxLen
 na:x.p.la.length≤maxLen
 nw:x.p.lw.length≤maxLen
 vt:Mt.TWs x.p.lt
 va:AWs x.p.la
 vw:AWs x.p.lw
 m0:0≤x.p.mt∧x.p.mt<18446744073709551616
 m1:0≤x.p.mm∧x.p.mm<18446744073709551616
 i0 : -9223372036854775808≤x.p.tab∧x.p.tab<9223372036854775808
 i1 : -9223372036854775808≤x.p.pri∧x.p.pri<9223372036854775808
 i2 : -9223372036854775808≤x.p.met∧x.p.met<9223372036854775808
 i3 : -9223372036854775808≤x.p.go∧x.p.go<9223372036854775808
theorem FIn.fb {w:World} {x:Fe} (h:FIn w x):FB w x:=by
 have h1:=h.nt;have h2:=h.na;have h3:=h.nw;unfold maxLen at h1 h2 h3;exact⟨h.t,h.a,h.w,by omega,by omega,by omega,h.ct⟩
theorem FIn.below {w w':World} {x:Fe} (h:FIn w x) (g:Below w.heap.size w w'):FIn w' x:={ h with t:=h.t.below g,a:=h.a.below g,w:=h.w.below g }
theorem FIn.lt {w:World} {x:Fe} (h:FIn w x) {b:Nat} (hb:InF x b):b<w.heap.size:=by
 rcases hb with hb|hb|hb
 ·exact h.t.lt hb
 ·exact h.a.lt hb
 ·exact h.w.lt hb
theorem en_in {H:Type} {enc:TypeId × Value→H} {W:World} {c0 c1 c2 c3 c4 c5 c6 c7 c8 c9:Value} {fuel:Nat} {x:DataW H × List MemPlace} (h:DataW.trod enc prog W 0 (fun _=>true) true fuel 76 [c0,c1,c2,c3,c4,c5,c6,c7,c8,c9]=some x) :
 ∃ y:Fe,[c0,c1,c2,c3,c4,c5,c6,c7,c8,c9]=(feC y).toList∧FIn W y:=by
 obtain⟨xs,m,_,_,_,hlen,hfs⟩:=DataW.trod_struct underlying76 h;match xs,hlen with
 | [y0,y1,y2,y3,y4,y5,y6,y7,y8,y9],_ =>
   have t0:DataW.trod enc prog W 0 (fun _=>true) true m 3 [c0]=some y0:=by simpa [cellsInt,cellsTests,cellsActs,cellsBool,cellsU]using hfs 0 _ rfl
   have t1:DataW.trod enc prog W 0 (fun _=>true) true m 3 [c1]=some y1:=by simpa [cellsInt,cellsTests,cellsActs,cellsBool,cellsU]using hfs 1 _ rfl
   have t2:DataW.trod enc prog W 0 (fun _=>true) true m 74 [c2]=some y2:=by simpa [cellsInt,cellsTests,cellsActs,cellsBool,cellsU]using hfs 2 _ rfl
   have t3:DataW.trod enc prog W 0 (fun _=>true) true m 63 [c3]=some y3:=by simpa [cellsInt,cellsTests,cellsActs,cellsBool,cellsU]using hfs 3 _ rfl
   have t4:DataW.trod enc prog W 0 (fun _=>true) true m 63 [c4]=some y4:=by simpa [cellsInt,cellsTests,cellsActs,cellsBool,cellsU]using hfs 4 _ rfl
   have t5:DataW.trod enc prog W 0 (fun _=>true) true m 4 [c5]=some y5:=by simpa [cellsInt,cellsTests,cellsActs,cellsBool,cellsU]using hfs 5 _ rfl
   have t6:DataW.trod enc prog W 0 (fun _=>true) true m 44 [c6]=some y6:=by simpa [cellsInt,cellsTests,cellsActs,cellsBool,cellsU]using hfs 6 _ rfl
   have t7:DataW.trod enc prog W 0 (fun _=>true) true m 44 [c7]=some y7:=by simpa [cellsInt,cellsTests,cellsActs,cellsBool,cellsU]using hfs 7 _ rfl
   have t8:DataW.trod enc prog W 0 (fun _=>true) true m 3 [c8]=some y8:=by simpa [cellsInt,cellsTests,cellsActs,cellsBool,cellsU]using hfs 8 _ rfl
   have t9:DataW.trod enc prog W 0 (fun _=>true) true m 3 [c9]=some y9:=by simpa [cellsInt,cellsTests,cellsActs,cellsBool,cellsU]using hfs 9 _ rfl
   obtain⟨n0,q0,_,w0⟩:=DataW.trod_int underlying3 t0;have z0:=(List.cons.inj q0).1;obtain⟨n1,q1,_,w1⟩:=DataW.trod_int underlying3 t1;have z1:=(List.cons.inj q1).1;obtain⟨ta,lt,tc,z2,ht,vt,hct,hnt⟩:=mtests_in t2;obtain⟨aa,la,ca,z3,ha,va,hna⟩:=acts_in t3;obtain⟨aw,lw,cw,z4,hw,vw,hnw⟩:=acts_in t4;obtain⟨b5,q5,_⟩:=DataW.trod_bool underlying4 t5;have z5:=(List.cons.inj q5).1;obtain⟨n6,q6,_,w6⟩:=DataW.trod_int underlying44 t6;have z6:=(List.cons.inj q6).1;obtain⟨n7,q7,_,w7⟩:=DataW.trod_int underlying44 t7;have z7:=(List.cons.inj q7).1;obtain⟨n8,q8,_,w8⟩:=DataW.trod_int underlying3 t8;have z8:=(List.cons.inj q8).1;obtain⟨n9,q9,_,w9⟩:=DataW.trod_int underlying3 t9;have z9:=(List.cons.inj q9).1;refine⟨⟨⟨n0,n1,lt,la,lw,b5,n6,n7,n8,n9⟩,ta,tc,aa,ca,aw,cw⟩,by rw[z0,z1,z2,z3,z4,z5,z6,z7,z8,z9],⟨ht,ha,hw,hct,hnt,hna,hnw,vt,va,vw,wf_u64 w6,wf_u64 w7,wf_i64 w0,wf_i64 w1,wf_i64 w8,wf_i64 w9⟩⟩
abbrev Tup:=Int × Int × List Mt.T × List A × List A × Bool × Int × Int × Int × Int × Option Addr × Nat × Option Addr × Nat × Option Addr × Nat
def ofT (t:Tup):Fe:=⟨⟨t.1,t.2.1,t.2.2.1,t.2.2.2.1,t.2.2.2.2.1,t.2.2.2.2.2.1,t.2.2.2.2.2.2.1,t.2.2.2.2.2.2.2.1,t.2.2.2.2.2.2.2.2.1,t.2.2.2.2.2.2.2.2.2.1⟩,t.2.2.2.2.2.2.2.2.2.2.1,t.2.2.2.2.2.2.2.2.2.2.2.1,t.2.2.2.2.2.2.2.2.2.2.2.2.1,t.2.2.2.2.2.2.2.2.2.2.2.2.2.1,t.2.2.2.2.2.2.2.2.2.2.2.2.2.2.1,t.2.2.2.2.2.2.2.2.2.2.2.2.2.2.2⟩
def toT (x:Fe):Tup:=(x.p.tab,x.p.pri,x.p.lt,x.p.la,x.p.lw,x.p.clr,x.p.mt,x.p.mm,x.p.met,x.p.go,x.ta,x.tc,x.aa,x.ca,x.aw,x.cw)
theorem of_to (x:Fe):ofT (toT x)=x:=rfl
def EnAt (w:World) (a:Option Addr) (l:List Fe):Prop:=l=[]∨∃ g o,a=some ⟨g,o,none⟩∧g<w.heap.size∧∀ i (h:i<l.length),Be w g (o+i*10) l[i]
theorem entries_of {H:Type} {enc:TypeId × Value→H} {W:World} {a:Option Addr} {len cap fuel:Nat} {x:DataW H × List MemPlace} (hlt:∀ p∈x.2,p.block<W.heap.size)
 (h:DataW.trod enc prog W 0 (fun _=>true) true fuel 22 [.slice a len cap]=some x):∃ l:List Fe,l.length=len∧EnAt W a l∧(∀ y∈l,FIn W y)∧len≤maxLen∧len≤cap:=by
 rcases Deep.open_slice underlying22 h with⟨hcs,_⟩|⟨ad,ln,cp,m,n,D,Pl,hcs,hb,hl,hm,hmm,hx,hel⟩
 ·simp at hcs;exact⟨[],hcs.2.1.symm,.inl rfl,by simp,by unfold maxLen;omega,by omega⟩
 ·simp at hcs;obtain⟨rfl,rfl,rfl⟩:=hcs;have hm':m=cap:=by simpa using hmm
  subst hm';have one:∀ i,i<len→∃ t:Tup,(∀ j v,(feC (ofT t)).toList[j]? = some v→W.cell? (ad.add (i*10+j))=some v)∧FIn W (ofT t):=by
   intro i hi;obtain⟨cs',h1,h2⟩:=hel i (by omega);rw[cellsEntry]at h1;obtain⟨_,hlen,hcell⟩:=World.cells?_some h1;match cs',hlen with
   | [v0,v1,v2,v3,v4,v5,v6,v7,v8,v9],_ =>
     obtain⟨y,hy,hiy⟩:=en_in h2;refine⟨toT y,fun j v hj => ?_,by rw[of_to];exact hiy⟩;rw[of_to,← hy]at hj;have hj10:j<10:=by have:=(List.getElem?_eq_some_iff.1 hj).1;simpa using this
     have c:=hcell j hj10;rw[Deep.add_add]at c;rw[c];exact hj
  obtain⟨f,hf⟩:=Deep.choose_lt one;by_cases h0:len=0
  ·subst h0;exact⟨[],rfl,.inl rfl,by simp,by unfold maxLen;omega,hl⟩
  ·obtain⟨g,o,spot⟩:=ad;have hsp:spot=none:=by simpa [Addr.add]using World.cell?_spot ((hf 0 (by omega)).1 0 _ rfl)
   subst hsp;have hg:g<W.heap.size:=hlt (.cell g (o+0)) (by rw[hx,cellsEntry];exact List.mem_append_left _ (by simp[MemPlace.row];omega));refine⟨(List.range len).map fun i=>ofT (f i),by simp,.inr ⟨g,o,rfl,hg,fun i hi => ?_⟩,?_,by unfold maxLen at hm ⊢;omega,hl⟩
   ·have hi':i<len:=by simpa using hi
    simp only[List.getElem_map,List.getElem_range];intro j v hj;have:=(hf i hi').1 j v hj;rw[plain]at this;rwa [Nat.add_assoc]
   ·intro t ht;rw[List.mem_map]at ht;obtain⟨i,hi,rfl⟩:=ht;exact(hf i (List.mem_range.1 hi)).2
theorem array13 {α:Type} {cs:Array α} (h:cs.size=13):∃ c0 c1 c2 c3 c4 c5 c6 c7 c8 c9 c10 c11 c12,cs=#[c0,c1,c2,c3,c4,c5,c6,c7,c8,c9,c10,c11,c12]:=by
 obtain⟨l⟩:=cs;match l,h with
 | [c0,c1,c2,c3,c4,c5,c6,c7,c8,c9,c10,c11,c12],_=>exact⟨c0,c1,c2,c3,c4,c5,c6,c7,c8,c9,c10,c11,c12,rfl⟩
theorem wf_u32 {n:Int} (h:(Lit.int .u32 n).wf=true):0≤n∧n<4294967296:=by
 simp[Lit.wf,IntKind.min,IntKind.max,IntKind.signed,IntKind.bits]at h;omega
theorem e22:prog.cellsOf 44=1:=by kernel_rfl
theorem e23:prog.cellsOf 45=1:=by kernel_rfl
theorem e3:prog.cellsOf 3=1:=by kernel_rfl
theorem e9:prog.cellsOf 9=1:=by kernel_rfl
theorem e25:prog.cellsOf 47=11:=by kernel_rfl
namespace Gp
theorem form_sm {g:Gr} (h:formB g.id g.kd (g.l.map Bk.b3)=true):Sm g.l:=by
 unfold formB at h;simp only[Bool.and_eq_true,List.all_eq_true]at h;obtain⟨h1,h2⟩:=h;unfold headB at h1;simp only[Bool.and_eq_true]at h1;have h3:inB ((g.l.map Bk.b3).length:Int) (fewV g.kd) (mostV g.kd)=true:=h1.2;unfold inB at h3;simp only[Bool.and_eq_true,decide_eq_true_eq,List.length_map]at h3;have hm:mostV g.kd≤16:=by unfold mostV;split<;>omega
 refine⟨by omega,fun b hb => ?_⟩;have h4:=h2 b.b3 (List.mem_map.2 ⟨b,hb,rfl⟩);unfold bkB at h4;simp only[Bool.and_eq_true,decide_eq_true_eq]at h4;have h5:(b.l.length:Int)≤8:=h4.1.1;omega
theorem big_right {g:Gr} (h : ¬ Sm g.l):formB g.id g.kd (g.l.map Bk.b3)=false∧rightE g.p=24:=by
 have e:formB g.id g.kd (g.l.map Bk.b3)=false:=by
  cases hf:formB g.id g.kd (g.l.map Bk.b3)
  ·rfl
  ·exact absurd (form_sm hf) h
 exact⟨e,by show(if formB g.id g.kd (g.l.map Bk.b3)=true then _ else _)=_;rw[e];rfl⟩
theorem right_big (g:Gr) (w:World) (hT:Bs w g.a g.l) (hn:g.l.length≤9223372036854775807) (h : ¬ Sm g.l):Calls prog 57 #[gV g] w fun e w'=>e=.returned (.int .i64 24)∧Below w.heap.size w w':=by
 obtain⟨V,hV⟩:∃ V,gx w g=V:=⟨_,rfl⟩
 have GV:Below w.heap.size w V:=by rw[← hV];go_grown
 have HF:Hid (Calls prog 97 #[gV g] V fun e w'=>e=.returned (.bool false)∧Below V.heap.size V w'):=(show Calls _ _ _ _ _ by
  have:=rightForm_any g V (hT.below GV) hn;rw[(big_right h).1]at this;exact this)
 have HV:Hid (w.alloc (.cells #[.int .i64 g.id,.int .i64 g.kd,.slice g.a g.l.length g.c] 81)=V):=hV;have HG:Hid (Below w.heap.size w V):=GV;clear hT hn h hV GV;go_enter func57,ntmps57;go_wp2_with fail;rw[HV.out];refine HF.out.mono ?_;rintro e w1 ⟨rfl,g1⟩;go_wp2_with fail;go_ret;exact⟨rfl,btr HG.out g1 (Nat.le_refl _)⟩
theorem add_big {tb:Nat} (g:Gr) (w:World) (hT:Bs w g.a g.l) (hn:g.l.length≤9223372036854775807) (h : ¬ Sm g.l):Calls prog 28 #[ptr tb,gV g] w fun e w'=>e=.returned (.int .i64 24)∧Below w.heap.size w w':=by
 obtain⟨V,hV⟩:∃ V,gx w g=V:=⟨_,rfl⟩
 have GV:Below w.heap.size w V:=by rw[← hV];go_grown
 have HF:Hid (Calls prog 57 #[gV g] V fun e w'=>e=.returned (.int .i64 24)∧Below V.heap.size V w'):=right_big g V (hT.below GV) hn h;have HV:Hid (w.alloc (.cells #[.int .i64 g.id,.int .i64 g.kd,.slice g.a g.l.length g.c] 81)=V):=hV;have HG:Hid (Below w.heap.size w V):=GV;clear hT hn h hV GV;go_enter func28,ntmps28;go_wp2_with fail;rw[HV.out];refine HF.out.mono ?_;rintro e w1 ⟨rfl,g1⟩;go_wp2_with fail;go_ret;exact⟨rfl,btr HG.out g1 (Nat.le_refl _)⟩
theorem cellsBk:prog.cellsOf 93=3:=by kernel_rfl
theorem cellsBks:prog.cellsOf 79=1:=by kernel_rfl
theorem cellsGr:prog.cellsOf 81=3:=by kernel_rfl
theorem acts_in {H:Type} {enc:TypeId × Value→H} {W:World} {c:Value} {fuel:Nat} {x:DataW H × List MemPlace}
 (h:DataW.trod enc prog W 0 (fun _=>true) true fuel 63 [c]=some x):∃ a,∃ l:List A,∃ cap,c=.slice a l.length cap∧Ts W a l∧AWs l:=by
 have hlt:∀ p∈x.2,p.block<W.heap.size:=DataW.trod_lt fuel _ _ _ h;rcases Deep.open_slice underlying63 h with⟨hcs,_⟩|⟨ad,ln,cp,_,_,_,_,hcs,_⟩
 ·have hc:c=.slice none 0 0:=(List.cons.inj hcs).1;subst hc;exact⟨none,[],0,rfl,.inl rfl,by simp⟩
 ·have hc:c=.slice (some ad) ln cp:=(List.cons.inj hcs).1;subst hc;obtain⟨l,h1,h2,h3,_⟩:=acts_of hlt h;exact⟨some ad,l,cp,by rw[h1],h2,h3⟩
def bkOf (t:Int × Int × Option Addr × List A × Nat):Bk:=⟨t.1,t.2.1,t.2.2.1,t.2.2.2.1,t.2.2.2.2⟩
theorem bks_of {H:Type} {enc:TypeId × Value→H} {W:World} {a:Option Addr} {len cap fuel:Nat} {x:DataW H × List MemPlace} (hlt:∀ p∈x.2,p.block<W.heap.size)
 (h:DataW.trod enc prog W 0 (fun _=>true) true fuel 79 [.slice a len cap]=some x):∃ l:List Bk,l.length=len∧(l=[]∨∃ g o,a=some ⟨g,o,none⟩∧g<W.heap.size∧∀ i (h:i<l.length),Cb W g (o+i*3) l[i])∧(∀ b∈l,Ts W b.a b.l∧AWs b.l)∧len≤cap∧cap≤9223372036854775807:=by
 rcases Deep.open_slice underlying79 h with⟨hcs,_⟩|⟨ad,ln,cp,m,n,D,Pl,hcs,hb,hl,hm,hmm,hx,hel⟩
 ·simp at hcs;exact⟨[],hcs.2.1.symm,.inl rfl,by simp,by omega,by omega⟩
 ·simp at hcs;obtain⟨rfl,rfl,rfl⟩:=hcs;have hm':m=cap:=by simpa using hmm
  subst hm';have one:∀ i,i<len→∃ b:Bk,W.cell? (ad.add (i*3))=some (.int .i64 b.wa)∧W.cell? (ad.add (i*3+1))=some (.int .i64 b.we)∧W.cell? (ad.add (i*3+2))=some (.slice b.a b.l.length b.c)∧Ts W b.a b.l∧AWs b.l:=by
   intro i hi;obtain⟨cs',h1,h2⟩:=hel i (by omega);rw[cellsBk]at h1;obtain⟨_,hlen,hcell⟩:=World.cells?_some h1;obtain⟨xs,k,hk,hxy,_,hxl,hf⟩:=DataW.trod_struct underlying93 h2;match xs,hxl,cs',hlen with
   | [y0,y1,y2],_,[v0,v1,v2],_ =>
     have g0:=hf 0 _ rfl;have g1:=hf 1 _ rfl;have g2:=hf 2 _ rfl;simp[cellsInt,cellsActs]at g0 g1 g2;obtain⟨n0,e0,d0,r0⟩:=DataW.trod_int underlying3 g0;obtain⟨n1,e1,d1,r1⟩:=DataW.trod_int underlying3 g1;obtain⟨aa,la,ca,z2,ha,va⟩:=acts_in g2;simp at e0 e1;have c0:=hcell 0 (by omega);have c1:=hcell 1 (by omega);have c2:=hcell 2 (by omega);rw[Deep.add_add]at c0 c1 c2;exact⟨⟨n0,n1,aa,la,ca⟩,by simpa [e0]using c0,by simpa [e1]using c1,by simpa [z2]using c2,ha,va⟩
  have one':∀ i,i<len→∃ t:Int × Int × Option Addr × List A × Nat,W.cell? (ad.add (i*3))=some (.int .i64 (bkOf t).wa)∧W.cell? (ad.add (i*3+1))=some (.int .i64 (bkOf t).we)∧W.cell? (ad.add (i*3+2))=some (.slice (bkOf t).a (bkOf t).l.length (bkOf t).c)∧Ts W (bkOf t).a (bkOf t).l∧AWs (bkOf t).l:=fun i hi=>by
   obtain⟨b,hb⟩:=one i hi;exact⟨(b.wa,b.we,b.a,b.l,b.c),hb⟩
  obtain⟨f0,hf⟩:=Deep.choose_lt one';by_cases h0:len=0
  ·subst h0;exact⟨[],rfl,.inl rfl,by simp,hl,by unfold maxLen at hm;omega⟩
  ·obtain⟨g,o,spot⟩:=ad;have hsp:spot=none:=by simpa [Addr.add]using World.cell?_spot (hf 0 (by omega)).1
   subst hsp;have hg:g<W.heap.size:=hlt (.cell g (o+0)) (by rw[hx,cellsBk];exact List.mem_append_left _ (by simp[MemPlace.row];omega));refine⟨(List.range len).map fun i=>bkOf (f0 i),by simp,.inr ⟨g,o,rfl,hg,fun i hi => ?_⟩,?_,hl,by unfold maxLen at hm;omega⟩
   ·have hi':i<len:=by simpa using hi
    obtain⟨x0,x1,x2,_⟩:=hf i hi';rw[plain]at x0 x1 x2;simp only[List.getElem_map,List.getElem_range];exact⟨x0,by rw[← Nat.add_assoc]at x1;exact x1,by rw[← Nat.add_assoc]at x2;exact x2⟩
   ·intro t ht;rw[List.mem_map]at ht;obtain⟨i,hi,rfl⟩:=ht;exact(hf i (List.mem_range.1 hi)).2.2.2
theorem bks_in {H:Type} {enc:TypeId × Value→H} {W:World} {c:Value} {fuel:Nat} {x:DataW H × List MemPlace}
 (h:DataW.trod enc prog W 0 (fun _=>true) true fuel 79 [c]=some x):∃ a,∃ l:List Bk,∃ cap,c=.slice a l.length cap∧(l=[]∨∃ g o,a=some ⟨g,o,none⟩∧g<W.heap.size∧∀ i (h:i<l.length),Cb W g (o+i*3) l[i])∧(∀ b∈l,Ts W b.a b.l∧AWs b.l)∧l.length≤cap∧cap≤9223372036854775807:=by
 have hlt:∀ p∈x.2,p.block<W.heap.size:=DataW.trod_lt fuel _ _ _ h;rcases Deep.open_slice underlying79 h with⟨hcs,_⟩|⟨ad,ln,cp,_,_,_,_,hcs,_⟩
 ·have hc:c=.slice none 0 0:=(List.cons.inj hcs).1;subst hc;exact⟨none,[],0,rfl,.inl rfl,by simp,Nat.le_refl _,by omega⟩
 ·have hc:c=.slice (some ad) ln cp:=(List.cons.inj hcs).1;subst hc;obtain⟨l,h1,h2,h3,h4,h5⟩:=bks_of hlt h;exact⟨some ad,l,cp,by rw[h1],h2,h3,by rw[h1];exact h4,h5⟩
structure GIn (W:World) (g:Gr):Prop where
 bs:Bs W g.a g.l
 u:∀ b∈g.l,AWs b.l
 i0 : -9223372036854775808≤g.id
 i1:g.id≤9223372036854775807
 cl:g.l.length≤g.c
 cm:g.c≤9223372036854775807
theorem gr_in {H:Type} {enc:TypeId × Value→H} {W:World} {c0 c1 c2:Value} {fuel:Nat} {x:DataW H × List MemPlace} (h:DataW.trod enc prog W 0 (fun _=>true) true fuel 81 [c0,c1,c2]=some x) :
 ∃ g:Gr,c0=.int .i64 g.id∧c1=.int .i64 g.kd∧c2=.slice g.a g.l.length g.c∧GIn W g:=by
 obtain⟨xs,m,_,_,_,hlen,hfs⟩:=DataW.trod_struct underlying81 h;match xs,hlen with
 | [y0,y1,y2],_ =>
   have t0:DataW.trod enc prog W 0 (fun _=>true) true m 3 [c0]=some y0:=by simpa [cellsInt,cellsBks]using hfs 0 _ rfl
   have t1:DataW.trod enc prog W 0 (fun _=>true) true m 3 [c1]=some y1:=by simpa [cellsInt,cellsBks]using hfs 1 _ rfl
   have t2:DataW.trod enc prog W 0 (fun _=>true) true m 79 [c2]=some y2:=by simpa [cellsInt,cellsBks]using hfs 2 _ rfl
   obtain⟨n0,q0,_,w0⟩:=DataW.trod_int underlying3 t0;obtain⟨n1,q1,_,w1⟩:=DataW.trod_int underlying3 t1;obtain⟨ga,gl,gc,z2,hg,hb,h1,h2⟩:=bks_in t2;have z0:=(List.cons.inj q0).1;have z1:=(List.cons.inj q1).1;obtain⟨a0,a1⟩:=wf_i64 w0;exact⟨⟨n0,n1,ga,gl,gc⟩,z0,z1,z2,⟨⟨fun b h=>(hb b h).1,hg⟩,fun b h=>(hb b h).2,a0,by simp only;omega,h1,h2⟩⟩
theorem bools_of {H:Type} {enc:TypeId × Value→H} {W:World} {a:Option Addr} {len cap fuel:Nat} {x:DataW H × List MemPlace} (hlt:∀ p∈x.2,p.block<W.heap.size)
 (h:DataW.trod enc prog W 0 (fun _=>true) true fuel 25 [.slice a len cap]=some x):∃ l:List Bool,l.length=len∧Ls W a l∧len≤maxLen:=by
 rcases Deep.open_slice underlying25 h with⟨hcs,_⟩|⟨ad,ln,cp,m,n,D,Pl,hcs,hb,hl,hm,hmm,hx,hel⟩
 ·simp at hcs;exact⟨[],hcs.2.1.symm,.inl rfl,by unfold maxLen;omega⟩
 ·simp at hcs;obtain⟨rfl,rfl,rfl⟩:=hcs;have hm':m=cap:=by simpa using hmm
  subst hm';have one:∀ i,i<len→∃ t:Bool,W.cell? (ad.add i)=some (.bool t):=by
   intro i hi;obtain⟨cs',h1,h2⟩:=hel i (by omega);rw[cellsBool]at h1;obtain⟨_,hlen,hcell⟩:=World.cells?_some h1;match cs',hlen with
   | [v0],_ =>
     obtain⟨b,e0,_⟩:=DataW.trod_bool underlying4 h2;simp at e0;have c0:=hcell 0 (by omega);rw[Deep.add_add]at c0;exact⟨b,by simpa [e0]using c0⟩
  obtain⟨f,hf⟩:=Deep.choose_lt one;by_cases h0:len=0
  ·subst h0;exact⟨[],rfl,.inl rfl,by unfold maxLen;omega⟩
  ·obtain⟨g,o,spot⟩:=ad;have hsp:spot=none:=by simpa [Addr.add]using World.cell?_spot (hf 0 (by omega))
   subst hsp;have hg:g<W.heap.size:=hlt (.cell g (o+0)) (by rw[hx,cellsBool];exact List.mem_append_left _ (by simp[MemPlace.row];omega));refine⟨(List.range len).map f,by simp,.inr ⟨g,o,rfl,hg,fun i hi => ?_⟩,by unfold maxLen at hm ⊢;omega⟩;have hi':i<len:=by simpa using hi
   have x0:=hf i hi';rw[plain]at x0;simp only[List.getElem_map,List.getElem_range];exact x0
def GsAt (w:World) (a:Option Addr) (l:List Gr):Prop :=
 l=[]∨∃ g o,a=some ⟨g,o,none⟩∧g<w.heap.size∧∀ i (h:i<l.length),Cg w g (o+i*3) l[i]
def grOf (t:Int × Int × Option Addr × List (Int × Int × Option Addr × List A × Nat) × Nat):Gr:=⟨t.1,t.2.1,t.2.2.1,t.2.2.2.1.map bkOf,t.2.2.2.2⟩
def grTo (t:Gr):Int × Int × Option Addr × List (Int × Int × Option Addr × List A × Nat) × Nat:=(t.id,t.kd,t.a,t.l.map fun b=>(b.wa,b.we,b.a,b.l,b.c),t.c)
theorem grOf_to (t:Gr):grOf (grTo t)=t:=by
 obtain⟨i,k,ga,l,c⟩:=t;have:(l.map fun b=>(b.wa,b.we,b.a,b.l,b.c)).map bkOf=l:=by
  rw[List.map_map];conv=>rhs;rw[← List.map_id l]
  rfl
 simp only[grTo,grOf,this]
theorem groups_of {H:Type} {enc:TypeId × Value→H} {W:World} {a:Option Addr} {len cap fuel:Nat} {x:DataW H × List MemPlace} (hlt:∀ p∈x.2,p.block<W.heap.size)
 (h:DataW.trod enc prog W 0 (fun _=>true) true fuel 23 [.slice a len cap]=some x):∃ l:List Gr,l.length=len∧GsAt W a l∧(∀ t∈l,GIn W t)∧len≤maxLen:=by
 rcases Deep.open_slice underlying23 h with⟨hcs,_⟩|⟨ad,ln,cp,m,n,D,Pl,hcs,hb,hl,hm,hmm,hx,hel⟩
 ·simp at hcs;exact⟨[],hcs.2.1.symm,.inl rfl,by simp,by unfold maxLen;omega⟩
 ·simp at hcs;obtain⟨rfl,rfl,rfl⟩:=hcs;have hm':m=cap:=by simpa using hmm
  subst hm';have one':∀ i,i<len→∃ t:Int × Int × Option Addr × List (Int × Int × Option Addr × List A × Nat) × Nat,W.cell? (ad.add (i*3))=some (.int .i64 (grOf t).id)∧W.cell? (ad.add (i*3+1))=some (.int .i64 (grOf t).kd)∧W.cell? (ad.add (i*3+2))=some (.slice (grOf t).a (grOf t).l.length (grOf t).c)∧GIn W (grOf t):=by
   intro i hi;obtain⟨cs',h1,h2⟩:=hel i (by omega);rw[cellsGr]at h1;obtain⟨_,hlen,hcell⟩:=World.cells?_some h1;match cs',hlen with
   | [v0,v1,v2],_ =>
     obtain⟨g,z0,z1,z2,hg⟩:=gr_in h2;have c0:=hcell 0 (by omega);have c1:=hcell 1 (by omega);have c2:=hcell 2 (by omega);rw[Deep.add_add]at c0 c1 c2;refine⟨grTo g,?_⟩;rw[grOf_to];exact⟨by simpa [z0]using c0,by simpa [z1]using c1,by simpa [z2]using c2,hg⟩
  obtain⟨f0,hf⟩:=Deep.choose_lt one';by_cases h0:len=0
  ·subst h0;exact⟨[],rfl,.inl rfl,by simp,by unfold maxLen;omega⟩
  ·obtain⟨g,o,spot⟩:=ad;have hsp:spot=none:=by simpa [Addr.add]using World.cell?_spot (hf 0 (by omega)).1
   subst hsp;have hg:g<W.heap.size:=hlt (.cell g (o+0)) (by rw[hx,cellsGr];exact List.mem_append_left _ (by simp[MemPlace.row];omega));refine⟨(List.range len).map fun i=>grOf (f0 i),by simp,.inr ⟨g,o,rfl,hg,fun i hi => ?_⟩,?_,by unfold maxLen at hm ⊢;omega⟩
   ·have hi':i<len:=by simpa using hi
    obtain⟨x0,x1,x2,_⟩:=hf i hi';rw[plain]at x0 x1 x2;simp only[List.getElem_map,List.getElem_range];rw[← Nat.add_assoc]at x1 x2;exact⟨x0,x1,x2⟩
   ·intro t ht;rw[List.mem_map]at ht;obtain⟨i,hi,rfl⟩:=ht;exact(hf i (List.mem_range.1 hi)).2.2.2
end Gp
theorem cellsTwo:prog.cellsOf 91=2:=by kernel_rfl
def TwAt (w:World) (a:Option Addr) (l:List (Int × Int)):Prop :=
 l=[]∨∃ g o,a=some ⟨g,o,none⟩∧g<w.heap.size∧∀ i (h:i<l.length),w.cell? ⟨g,o+i*2,none⟩=some (.int .i64 l[i].1)∧w.cell? ⟨g,o+i*2+1,none⟩=some (.int .i64 l[i].2)
theorem twos_of {H:Type} {enc:TypeId × Value→H} {W:World} {a:Option Addr} {len cap fuel:Nat} {x:DataW H × List MemPlace} (hlt:∀ p∈x.2,p.block<W.heap.size)
 (h:DataW.trod enc prog W 0 (fun _=>true) true fuel 24 [.slice a len cap]=some x):∃ l:List (Int × Int),l.length=len∧TwAt W a l∧len≤maxLen∧(a=none∧len=0∨∃ el sp,x.1=.slice el sp∧el.length+sp.length=cap∧len≤cap):=by
 rcases Deep.open_slice underlying24 h with⟨hcs,_⟩|⟨ad,ln,cp,m,n,D,Pl,hcs,hb,hl,hm,hmm,hx,hel⟩
 ·simp at hcs;exact⟨[],hcs.2.1.symm,.inl rfl,by unfold maxLen;omega,.inl ⟨hcs.1,hcs.2.1⟩⟩
 ·simp at hcs;obtain⟨rfl,rfl,rfl⟩:=hcs;have hm':m=cap:=by simpa using hmm
  subst hm';have one:∀ i,i<len→∃ t:Int × Int,W.cell? (ad.add (i*2))=some (.int .i64 t.1)∧W.cell? (ad.add (i*2+1))=some (.int .i64 t.2):=by
   intro i hi;obtain⟨cs',h1,h2⟩:=hel i (by omega);rw[cellsTwo]at h1;obtain⟨_,hlen,hcell⟩:=World.cells?_some h1;obtain⟨xs,k,_,_,_,hxl,hf⟩:=DataW.trod_array underlying91 h2;match xs,hxl,cs',hlen with
   | [y0,y1],_,[v0,v1],_ =>
     have t0:DataW.trod enc prog W 0 (fun _=>true) true k 3 [v0]=some y0:=by simpa [cellsInt]using hf 0 (by omega)
     have t1:DataW.trod enc prog W 0 (fun _=>true) true k 3 [v1]=some y1:=by simpa [cellsInt]using hf 1 (by omega)
     obtain⟨n0,q0,_,_⟩:=DataW.trod_int underlying3 t0;obtain⟨n1,q1,_,_⟩:=DataW.trod_int underlying3 t1;have z0:=(List.cons.inj q0).1;have z1:=(List.cons.inj q1).1;have c0:=hcell 0 (by omega);have c1:=hcell 1 (by omega);rw[Deep.add_add]at c0 c1;exact⟨(n0,n1),by simpa [z0]using c0,by simpa [z1]using c1⟩
  obtain⟨f,hf⟩:=Deep.choose_lt one;by_cases h0:len=0
  ·subst h0;exact⟨[],rfl,.inl rfl,by unfold maxLen;omega,.inr ⟨_,_,by rw[hx],by simp,hl⟩⟩
  ·obtain⟨g,o,spot⟩:=ad;have hsp:spot=none:=by simpa [Addr.add]using World.cell?_spot (hf 0 (by omega)).1
   subst hsp;have hg:g<W.heap.size:=hlt (.cell g (o+0)) (by rw[hx,cellsTwo];exact List.mem_append_left _ (by simp[MemPlace.row];omega));refine⟨(List.range len).map f,by simp,.inr ⟨g,o,rfl,hg,fun i hi => ?_⟩,by unfold maxLen at hm ⊢;omega,.inr ⟨_,_,by rw[hx],by simp;omega,hl⟩⟩;have hi':i<len:=by simpa using hi
   obtain⟨x0,x1⟩:=hf i hi';rw[plain]at x0 x1;simp only[List.getElem_map,List.getElem_range];rw[← Nat.add_assoc]at x1;exact⟨x0,x1⟩
namespace Gp
def insP (g:G3):List G3→List G3
 | []=>[g]
 | y::r=>if g.1<y.1 then g::y::r else y::insP g r
def delP (i:Int) (M:List G3):List G3:=M.filter fun g=>!decide (g.1=i)
theorem ins_p (g:Gr):∀ L:List Gr,(insG g L).map Gr.p=insP g.p (L.map Gr.p)
 | []=>rfl
 | y::r=>by
   rw[insG,List.map_cons,insP];by_cases h:g.id<y.id
   ·rw[if_pos h,if_pos (show g.p.1<y.p.1 from h)];rfl
   ·rw[if_neg h,if_neg (show ¬ g.p.1<y.p.1 from h),List.map_cons,ins_p g r]
theorem del_p (i:Int):∀ L:List Gr,(delG i L).map Gr.p=delP i (L.map Gr.p)
 | []=>rfl
 | y::r=>by
   have ih:=del_p i r;unfold delG delP at ih ⊢;rw[List.map_cons,List.filter_cons,List.filter_cons];by_cases h:y.id=i
   ·rw[if_neg (by simp[h]),if_neg (by simp[show y.p.1=i from h])];exact ih
   ·rw[if_pos (by simp[h]),if_pos (by simp[show y.p.1≠i from h]),List.map_cons,ih]
theorem put_p (g:Gr) (L:List Gr):(putG g L).map Gr.p=insP g.p (delP g.p.1 (L.map Gr.p)):=by
 unfold putG;rw[ins_p,del_p];rfl
theorem has_p (L:List Gr) (i:Int):hasP L i=(L.map Gr.p).any (fun p=>decide (p.1=i)):=by
 unfold hasP;rw[List.any_map];rfl
def addEP (room:Int) (M:List G3) (g:G3):Int :=
 if rightE g≠0 then rightE g else if M.any (fun p=>decide (p.1=g.1))=true then 29 else if ((rawL g.2.2).all fun i=>M.any (fun p=>decide (p.1=i)))=false then 31 else if room≤M.length then 27 else 0
def addGP (room:Int) (M:List G3) (g:G3):List G3:=if addEP room M g=0 then insP g (delP g.1 M) else M
theorem addE_p (room:Int) (L:List Gr) (g:Gr):addE room L g=addEP room (L.map Gr.p) g.p:=by
 unfold addE addEP leadsAll;have e:∀ i,hasP L i=(L.map Gr.p).any (fun p=>decide (p.1=i)):=has_p L;have e2:hasP L=fun i=>(L.map Gr.p).any (fun p=>decide (p.1=i)):=funext e;rw[e2,List.length_map];rfl
theorem insP_len (g:G3):∀ M:List G3,(insP g M).length=M.length+1
 | []=>rfl
 | y::r=>by
   rw[insP];split
   ·rfl
   ·rw[List.length_cons,insP_len g r];rfl
theorem addGP_len (M:List G3) (g:G3) (h:M.length≤64):(addGP 64 M g).length≤64:=by
 unfold addGP;split
 ·rename_i h0;unfold addEP at h0;rw[insP_len];have hd:(delP g.1 M).length≤M.length:=List.length_filter_le _ _;(repeat' split at h0)<;>omega
 ·exact h
def allGP (l:List G3):List G3:=l.foldl (addGP 64) []
theorem allGP_snoc (l:List G3) (g:G3):allGP (l++[g])=addGP 64 (allGP l) g:=by unfold allGP;rw[List.foldl_append];rfl
theorem allGP_len (l:List G3):(allGP l).length≤64:=by
 unfold allGP;suffices h:∀ (l:List G3) (M:List G3),M.length≤64→(l.foldl (addGP 64) M).length≤64 from h l [] (by simp)
 intro l;induction l with
 | nil=>intro M h;exact h
 | cons a r ih=>intro M h;exact ih _ (addGP_len M a h)
end Gp
def allFP (l:List Fp):Nat→List Fp:=l.foldl (fun P x=>addT 256 P x false) (fun _=>[])
theorem allFP_snoc (l:List Fp) (x:Fp):allFP (l++[x])=addT 256 (allFP l) x false:=by unfold allFP;rw[List.foldl_append];rfl
theorem addT_right (P:Nat→List Fp) (x:Fp) (h:∀ u,∀ y∈P u,wrongE y=0):∀ u,∀ y∈addT 256 P x false u,wrongE y=0:=by
 intro u y hy;unfold addT at hy;split at hy
 ·rename_i hw;by_cases e:u=x.tab.toNat
  ·subst e;rw[upd_same]at hy;unfold addL at hy;split at hy
   ·unfold putL at hy;split at hy
    ·rcases List.mem_or_eq_of_mem_set hy with hy|rfl
     ·exact h _ y hy
     ·exact hw
    ·unfold insL at hy;rcases List.mem_append.1 hy with hy|hy
     ·exact h _ y (List.mem_of_mem_take hy)
     ·rcases List.mem_cons.1 hy with rfl|hy
      ·exact hw
      ·exact h _ y (List.mem_of_mem_drop hy)
   ·exact h _ y hy
  ·rw[upd_other _ _ _ e]at hy;exact h u y hy
 ·exact h u y hy
theorem allFP_right (l:List Fp):∀ u,∀ y∈allFP l u,wrongE y=0:=by
 unfold allFP;suffices h:∀ (l:List Fp) (P:Nat→List Fp),(∀ u,∀ y∈P u,wrongE y=0)→∀ u,∀ y∈l.foldl (fun P x=>addT 256 P x false) P u,wrongE y=0 from h l _ (fun u y hy=>by cases hy)
 intro l;induction l with
 | nil=>intro P h;exact h
 | cons a r ih=>intro P h;exact ih _ (addT_right P a h)
end Go.Proofs.YtgnihbdcdefdgaaGreatDoor

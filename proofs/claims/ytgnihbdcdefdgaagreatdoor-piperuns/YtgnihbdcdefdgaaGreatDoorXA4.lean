import Derived.Test.YtgnihbdcdefdgaaGreatDoorXA3
import Derived.Test.YtgnihbdcdefdgaaGreatDoorX23
set_option maxRecDepth 20000
set_option maxHeartbeats 32000000
set_option linter.unusedVariables false
open Go.ChangeShapes Go.WideShapes Go.ChangeAt Go.RowKit
open Go.Proofs.Tryz
namespace Go.Proofs.YtgnihbdcdefdgaaGreatDoor
namespace Gp
structure LfI (V:World) (r:List Gr) (v:Value) (S:List Gr) (wr:World):Prop where
 row:wr.ownsRow V.heap.size 81 3 v S.length (flatG S)
 bel:Below V.heap.size V wr
 sub:∀ x∈S,x∈r
theorem LfI.grow {V:World} {r:List Gr} {v:Value} {S:List Gr} {wr w2:World} (h:LfI V r v S wr) (k:Below wr.heap.size wr w2):LfI V r v S w2:=⟨own_below h.row k,h.bel.trans (k.mono h.bel.size),h.sub⟩
theorem LfI.gs {V:World} {r:List Gr} {v:Value} {S:List Gr} {wr:World} (h:LfI V r v S wr) (hr:∀ x∈r,Bs V x.a x.l∧Sm x.l):∃ a c,v=.slice a S.length c∧S.length≤c∧Gs wr a S:=by
 have hb:∀ x∈S,Bs wr x.a x.l:=fun x hx=>(hr x (h.sub x hx)).1.below h.bel;have hs:∀ x∈S,Sm x.l:=fun x hx=>(hr x (h.sub x hx)).2;rcases h.row.2 with⟨rfl,h0⟩|⟨g,cap,cur,rfl,hbg,hbb,hnc,hcm,_⟩
 ·have e:S=[]:=List.length_eq_zero_iff.1 h0;subst e;exact⟨none,0,rfl,Nat.le_refl _,.inl rfl,hb,hs⟩
 ·exact⟨_,_,rfl,hnc,.inr ⟨g,0,rfl,(Array.getElem?_eq_some_iff.1 hbb).1,fun i hi=>by rw[Nat.zero_add];exact rowG_cells rfl h.row i hi⟩,hb,hs⟩
theorem newsG {w:World} {g o:Nat} {l:List Gr} (h:∀ i (h:i<l.length),Cg w g (o+i*3) l[i]):∀ j u,(flatG l)[j]? = some u→w.cell? ((⟨g,o,none⟩:Addr).add j)=some u:=by
 intro j u hj;obtain⟨i,hi,hh⟩:=flatG_cell l j u hj;obtain⟨c0,c1,c2⟩:=h i hi;rw[addP];rcases hh with⟨rfl,rfl⟩|⟨rfl,rfl⟩|⟨rfl,rfl⟩
 ·exact c0
 ·rw[← Nat.add_assoc];exact c1
 ·rw[← Nat.add_assoc];exact c2
theorem wpList_appGs {w:World} {ops:Array Oper} {rest:List Oper} {o:Oper} {a:Act} {Q:Exit→Act→World→Prop} (hgd:o.guard=none) (s x:Operand)
 (ho:o.op=.call { callee:=.builtin .append,args:=#[s,x],argTypes:=#[23,23] }) (V:World) (r:List Gr) (v:Value) (S:List Gr) (hs:a.eval s=v) (hI:LfI V r v S w)
 (ad:Option Addr) (cap:Nat) (l:List Gr) (m:Nat) (hm:m=l.length) (hx:a.eval x=.slice ad m cap) (hT:l=[]∨∃ g o,ad=some ⟨g,o,none⟩∧g<w.heap.size∧∀ i (h:i<l.length),Cg w g (o+i*3) l[i]) (hn:S.length+l.length≤1000) (hsub:∀ y∈l,y∈r)
 (h:∀ v' w',LfI V r v' (S++l) w'→wpList prog ops Q rest (a.put o.dst v') w'):wpList prog ops Q (o::rest) a w:=by
 obtain⟨i0,hi,hz0,hz1,hz2⟩:=info_parts infoGr;have hsb:∀ y∈S++l,y∈r:=fun y hy=>by
  rcases List.mem_append.1 hy with hy|hy
  ·exact hI.sub y hy
  ·exact hsub y hy
 subst hm;rcases hT with rfl|⟨g,of,rfl,_,hc⟩
 ·have src:Src prog i0.size 23 (.slice ad 0 cap) 0 [] w:=by
   cases ad with
   | none=>exact Src.ofNil w underlying23 cap
   | some q=>exact Src.ofSlice w underlying23 q 0 cap [] (by simp) (fun j u hj=>by simp at hj) (fun u hu=>by simp at hu)
  have hI':LfI V r v (S++[]) w:=by rw[List.append_nil];exact hI
  rcases hI.row.2 with⟨rfl,h0⟩|⟨g,c,cur,rfl,hbg,hhg,hnc,hcm,hcs,htk⟩
  ·refine Lib.wpList_append_run w hgd s x 23 23 ho _ _ hs hx _ _ (run_append_nothing w 23 23 o.type 81 i0 underlying23 hi none 0 0 (Nat.le_refl _) _ src) ?_;exact h _ _ hI'
  ·refine Lib.wpList_append_run w hgd s x 23 23 ho _ _ hs hx _ _ (run_append_nothing w 23 23 o.type 81 i0 underlying23 hi (some ⟨g,0,none⟩) S.length c hnc _ src) ?_;exact h _ _ hI'
 ·exact wpList_append_own w hgd s x 23 ho V.heap.size 81 i0 (.agg #[.int .i64 0,.int .i64 0,.slice none 0 0]) 3 40 underlying23 hi hz0 hz1 hz2 rfl (by decide) v S.length (flatG S) hs hI.row ⟨g,of,none⟩ l.length cap (flatG l) hx (flatG_length l) (newsG hc) (flatG_one l) (by unfold maxLen;omega) (by omega) hI.bel.size (fun v' w' h1 h2 _=>h v' w' ⟨by rw[List.length_append,flatG_append];exact h1,hI.bel.grown h2 hI.bel.size (fun j hj=>(hI.row.lt j hj).1),hsb⟩)
theorem rget_any {W:World} {rb:Nat} {room:Int} {v:Value} {L:List Gr} (i:Int) (w:World) (h:RT W rb room v L w) (hL:L.length≤64):Calls prog 117 #[ptr rb,.int .i64 i] w fun e w'=>∃ (g':Gr) (er:Int),e=.returned (.tuple #[gV g',.int .i64 er])∧((hasP L i=false∧g'=gr0∧er=31)∨(g'∈L∧g'.id=i∧er=0))∧Below w.heap.size w w':=by
 have HAt:Hid (∀ w1,Below w.heap.size w w1→Calls prog 67 #[ptr rb,.int .i64 i] w1 fun e w'=>∃ m,e=.returned (.int .i64 m)∧AtR L i m∧w'=w1):=(show ∀ w1,_ from fun w1 k=>rat_any i w1 (h.below k) hL)
 obtain⟨V,hV⟩:∃ V,w.alloc (.cells #[.int .i64 0,.int .i64 0,.slice none 0 0] 81)=V:=⟨_,rfl⟩
 have GV:Below w.heap.size w V:=by rw[← hV];go_grown
 have zV:w.heap.size<V.heap.size:=by rw[← hV];simp
 have b1:V.cell? ⟨w.heap.size,0,none⟩=some (.int .i64 0)∧V.cell? ⟨w.heap.size,1,none⟩=some (.int .i64 0)∧V.cell? ⟨w.heap.size,2,none⟩=some (.slice none 0 0)∧∀ o,V.frozen? ⟨w.heap.size,o,none⟩=false:=by rw[← hV];simp
 have HV:Hid (w.alloc (.cells #[.int .i64 0,.int .i64 0,.slice none 0 0] 81)=V):=hV;have hR:=h.below GV;obtain⟨a,c,rfl,hlc,hc2,hcs⟩:=hR.slice;have c0:=hR.c0;have lt:=hR.lt;have HC:Hid (L=[]∨∃ g,a=some ⟨g,0,none⟩∧g<V.heap.size∧∀ i (h:i<L.length),Cg V g (i*3) L[i]):=hcs;obtain⟨x0,x1,x2,xf⟩:=b1;clear h hV hR hcs;go_enter func117,ntmps117;go_wp2_with fail;rw[HV.out];refine(HAt.out V GV).mono ?_;rintro e w1 ⟨m,rfl,hm,rfl⟩;rcases hm with⟨rfl,hf⟩|⟨k,rfl,hk,hid⟩
 ·have HE:Hid (hasP L i=false):=hf;clear hf c0 lt;go_wp2_with fail;obtain⟨s0,s1,s2⟩:=s3_cells (o:=0) (x:=.int .i64 0) (y:=.int .i64 0) (z:=.slice none 0 0) x0 x1 x2;have O5:=Only.s3 w1 w.heap.size 0 (.int .i64 0) (.int .i64 0) (.slice none 0 0);refine bodyPost_ret (resGe (b:=w.heap.size) (t:=gr0) rfl rfl ⟨s0,s1,s2⟩) rfl ?_;exact⟨gr0,31,rfl,.inl ⟨HE.out,rfl,rfl⟩,O5.below (Nat.le_refl _) GV⟩
 ·obtain⟨b,rfl,hb,hcs⟩:∃ g,a=some ⟨g,0,none⟩∧g<w1.heap.size∧∀ i (h:i<L.length),Cg w1 g (i*3) L[i]:=by
   rcases HC.out with e|h
   ·subst e;cases hk
   ·exact h
  obtain⟨d0,d1,d2⟩:=hcs k hk;have HM:Hid (L[k]∈L∧L[k].id=i):=(show _∧_ from⟨List.getElem_mem hk,hid⟩)
  clear hcs HC hid;generalize L[k]=X at *
  go_wp2_with fail;obtain⟨s0,s1,s2⟩:=s3_cells (o:=0) (x:=.int .i64 X.id) (y:=.int .i64 X.kd) (z:=.slice X.a X.l.length X.c) x0 x1 x2;have O5:=Only.s3 w1 w.heap.size 0 (.int .i64 X.id) (.int .i64 X.kd) (.slice X.a X.l.length X.c);refine bodyPost_ret (resGe (b:=w.heap.size) (t:=X) rfl rfl ⟨s0,s1,s2⟩) rfl ?_;exact⟨X,0,rfl,.inr ⟨HM.out.1,HM.out.2,rfl⟩,O5.below (Nat.le_refl _) GV⟩
def AdI (g:Gr) (L:List Gr) (q:Nat) (d:Bool) (out:List Gr):Prop:=(d=false∧out=L.take q∧insG g L=L.take q++insG g (L.drop q))∨(d=true∧insG g L=out++L.drop q)
theorem AdI.here {g:Gr} {L:List Gr} {q:Nat} {out:List Gr} (h:AdI g L q false out) (hq:q<L.length) (hl:g.id<L[q].id):AdI g L (q+1) true ((out++[g])++[L[q]]):=by
 rcases h with⟨_,h1,h2⟩|⟨h1,_⟩
 ·refine .inr ⟨rfl,?_⟩;rw[h2,h1,List.drop_eq_getElem_cons hq,insG,if_pos hl];simp
 ·cases h1
theorem AdI.next {g:Gr} {L:List Gr} {q:Nat} {out:List Gr} (h:AdI g L q false out) (hq:q<L.length) (hl : ¬ g.id<L[q].id):AdI g L (q+1) false (out++[L[q]]):=by
 rcases h with⟨_,h1,h2⟩|⟨h1,_⟩
 ·refine .inl ⟨rfl,by rw[h1,List.take_succ_eq_append_getElem hq],?_⟩;rw[h2,List.drop_eq_getElem_cons hq,insG,if_neg hl,List.take_succ_eq_append_getElem hq,List.append_assoc];rfl
 ·cases h1
theorem AdI.more {g:Gr} {L:List Gr} {q:Nat} {out:List Gr} (h:AdI g L q true out) (hq:q<L.length):AdI g L (q+1) true (out++[L[q]]):=by
 rcases h with⟨h1,_⟩|⟨_,h2⟩
 ·cases h1
 ·refine .inr ⟨rfl,?_⟩;rw[h2,List.drop_eq_getElem_cons hq];simp
theorem AdI.endF {g:Gr} {L:List Gr} {out:List Gr} (h:AdI g L L.length false out):insG g L=out++[g]:=by
 rcases h with⟨_,h1,h2⟩|⟨h1,_⟩
 ·rw[h2,h1,List.drop_length];rfl
 ·cases h1
theorem AdI.endT {g:Gr} {L:List Gr} {out:List Gr} (h:AdI g L L.length true out):insG g L=out:=by
 rcases h with⟨h1,_⟩|⟨_,h2⟩
 ·cases h1
 ·rw[h2,List.drop_length,List.append_nil]
theorem AdI.len {g:Gr} {L:List Gr} {q:Nat} {d:Bool} {out:List Gr} (h:AdI g L q d out):out.length≤L.length+1:=by
 rcases h with⟨_,h1,_⟩|⟨_,h2⟩
 ·rw[h1,List.length_take];omega
 ·have:=congrArg List.length h2;rw[len_ins,List.length_append]at this;omega
theorem RT.store {W:World} {rb:Nat} {room:Int} {v v':Value} {L L':List Gr} {wr w2 V:World} (h:RT W rb room v L wr) (hV:Below wr.heap.size wr V) (hI:∃ r,LfI V r v' L' w2) (hg:∀ g∈L',Bs W g.a g.l∧Sm g.l∧rightE g.p=0) (hs:SrtG L'):RT W rb room v' L' (w2.setCell ⟨rb,0,none⟩ v')∧wr.grownBy (w2.setCell ⟨rb,0,none⟩ v') (some rb)∧∀ b,v'.ownBlock=some b→wr.heap.size≤b:=by
 obtain⟨r,hI⟩:=hI;have h2:=(h.below hV).below hI.bel;have hz:=hV.size;have hW:=h.bel.size;have hnew:∀ b,v'.ownBlock=some b→wr.heap.size≤b:=fun b hb=>Nat.le_trans hz (hI.row.lt b hb).1;have hne:v'.ownBlock≠some rb:=fun e=>by have:=hnew rb e;have:=h.lt;omega
 have hO:Only rb w2 (w2.setCell ⟨rb,0,none⟩ v'):=(Only.refl _ _).setCell _ _;refine⟨⟨World.cell?_setCell_same _ _ _ h2.c0,(World.cell?_setCell_other _ _ _ _ (by simp)).trans h2.c1,by simp[h2.f0],by rw[hO.size];exact h2.lt,h.ge,?_,hne,hg,hs,hO.below h.ge h2.bel⟩,⟨?_,?_,?_,?_,?_⟩,hnew⟩
 ·exact ownsRow_setCell_other (own_mono hI.row (Nat.le_trans hW hz)) hne _
 ·exact hO.os.trans (hI.bel.os.trans hV.os)
 ·exact hO.tape.trans (hI.bel.tape.trans hV.tape)
 ·exact hO.output.trans (hI.bel.output.trans hV.output)
 ·rw[hO.size];exact Nat.le_trans hz hI.bel.size
 ·intro k hk hne2;exact(hO.block k (fun e=>hne2 (by rw[e]))).trans ((hI.bel.block k (Nat.lt_of_lt_of_le hk hz)).trans (hV.block k hk))
theorem LfI.form {V:World} {r:List Gr} {v:Value} {S:List Gr} {wr:World} (h:LfI V r v S wr):∃ a c,v=.slice a S.length c:=by
 rcases h.row.2 with⟨rfl,h0⟩|⟨g,cap,cur,rfl,_⟩
 ·exact⟨none,0,by rw[h0]⟩
 ·exact⟨_,_,rfl⟩
theorem LfI.form2 {V:World} {r:List Gr} {v:Value} {S:List Gr} {wr:World} (h:LfI V r v S wr):∃ a n c,v=.slice a n c:=by
 obtain⟨a,c,e⟩:=h.form;exact⟨a,_,c,e⟩
theorem g1_cells (w:World) (xi xk:Int) (xa:Option Addr) (xl:List Bk) (xc:Nat):[Gr.mk xi xk xa xl xc]=[]∨∃ g o,(some (⟨w.heap.size,0,none⟩:Addr))=some ⟨g,o,none⟩∧g<(w.alloc (.cells #[.int .i64 xi,.int .i64 xk,.slice xa xl.length xc] 81)).heap.size∧∀ i (h:i<[Gr.mk xi xk xa xl xc].length),Cg (w.alloc (.cells #[.int .i64 xi,.int .i64 xk,.slice xa xl.length xc] 81)) g (o+i*3) [Gr.mk xi xk xa xl xc][i] :=
 .inr ⟨w.heap.size,0,rfl,by simp,fun i hi=>by
  have:i=0:=by simpa using hi
  subst this;exact⟨by simp,by simp,by simp⟩⟩
theorem radd_any {W:World} {rb:Nat} {room:Int} {v:Value} {L:List Gr} (g:Gr) (w:World) (h:RT W rb room v L w) (hL:L.length≤64) (hT:Bs W g.a g.l) (hS:Sm g.l) (hU:∀ b∈g.l,AWs b.l) :
 Calls prog 33 #[ptr rb,gV g] w fun e w'=>e=.returned (.int .i64 (addE room L g))∧(addE room L g≠0→Below w.heap.size w w')∧(addE room L g=0→∃ v',RT W rb room v' (insG g L) w'∧w.grownBy w' (some rb)∧∀ b,v'.ownBlock=some b→w.heap.size≤b):=by
 have hTw:Bs w g.a g.l:=hT.below h.bel;have HRi:Hid (∀ w1,Below w.heap.size w w1→Calls prog 66 #[gV g] w1 fun e w'=>e=.returned (.int .i64 (rightE g.p))∧Below w1.heap.size w1 w'):=(show ∀ w1,_ from fun w1 k=>rright_g g w1 (hTw.below k) hS hU)
 have HAt:Hid (∀ w1,Below w.heap.size w w1→Calls prog 67 #[ptr rb,.int .i64 g.id] w1 fun e w'=>∃ m,e=.returned (.int .i64 m)∧decide (0≤m)=hasP L g.id∧w'=w1):=(show ∀ w1,_ from fun w1 k=>by
  refine(rat_any g.id w1 (h.below k) hL).mono ?_;rintro e w' ⟨m,rfl,h1,h2⟩;exact⟨m,rfl,h1.pos,h2⟩)
 have HTh:Hid (rightE g.p=0→∀ w1,Below w.heap.size w w1→Calls prog 68 #[ptr rb,gV g] w1 fun e w'=>e=.returned (.bool (leadsAll L (g.l.map Bk.b3)))∧Below w1.heap.size w1 w'):=(show _→∀ w1,_ from fun hr w1 k=>rthere_any g w1 (h.below k) hL (hTw.below k) hS hr)
 have HE:Hid (addE room L g=if rightE g.p≠0 then rightE g.p else if hasP L g.id=true then 29 else if leadsAll L (g.l.map Bk.b3)=false then 31 else if room≤L.length then 27 else 0):=(show _=_ from rfl)
 have HRT:Hid (∀ w1,Below w.heap.size w w1→RT W rb room v L w1):=(show ∀ w1,_ from fun w1 k=>h.below k)
 have HFin:Hid (rightE g.p=0→hasP L g.id=false→∀ (V w2:World) v' L',L'=insG g L→Below w.heap.size w V→LfI V (g::L) v' L' w2→RT W rb room v' (insG g L) (w2.setCell ⟨rb,0,none⟩ v')∧w.grownBy (w2.setCell ⟨rb,0,none⟩ v') (some rb)∧∀ b,v'.ownBlock=some b→w.heap.size≤b):=(show _→_→∀ (V w2:World) v' L',_ from fun hr hh V w2 v' L' e k hI=>by
  subst e;refine h.store k ⟨_,hI⟩ (fun x hx => ?_) (srt_ins h.srt (fun x hx e => ?_))
  ·rcases mem_ins.1 hx with rfl|hx
   ·exact⟨hT,hS,hr⟩
   ·exact h.grp x hx
  ·rw[hasP_iff.2 ⟨x,hx,e⟩]at hh;cases hh)
 have HL:Hid (L.length≤64):=hL;obtain⟨V,hV⟩:∃ V,gx w g=V:=⟨_,rfl⟩
 have GV:Below w.heap.size w V:=by rw[← hV];go_grown
 have zV:w.heap.size<V.heap.size:=by rw[← hV];simp
 have hc:=Cg.new w g;rw[hV]at hc;have HX:Hid (∀ w',Below V.heap.size V w'→(w'.cell? ⟨w.heap.size,0,none⟩=some (.int .i64 g.id)∧w'.cell? ⟨w.heap.size,1,none⟩=some (.int .i64 g.kd)∧w'.cell? ⟨w.heap.size,2,none⟩=some (.slice g.a g.l.length g.c))∧Below w.heap.size w w'∧w.heap.size<w'.heap.size):=(show ∀ w',_ from fun w' k=>⟨hc.below zV k,btr GV k (Nat.le_refl _),Nat.lt_of_lt_of_le zV k.size⟩)
 have HV:Hid (w.alloc (.cells #[.int .i64 g.id,.int .i64 g.kd,.slice g.a g.l.length g.c] 81)=V):=hV;obtain⟨⟨k0,k1,k2⟩,_,kz⟩:=HX.out V (Below.refl _ _);clear h hL hT hTw hS hU hc zV hV;generalize addE room L g=AE at *
 go_enter func33,ntmps33;go_wp2_with fail;rw[HV.out];refine(HRi.out V GV).mono ?_;rintro e w1 ⟨rfl,g1⟩;obtain⟨⟨c0,c1,c2⟩,G1,z1⟩:=HX.out w1 g1;clear k0 k1 k2 kz HRi HV;by_cases hr:rightE g.p=0;case neg =>
  have hne:(rightE g.p != 0)=true:=by simpa using hr
  have HE1:Hid (AE=rightE g.p):=(show _=_ by rw[HE.out,if_pos hr])
  have HR0:Hid (rightE g.p≠0):=hr;clear hr HE;go_wp2_with fail;go_ret;exact⟨by rw[HE1.out];rfl,fun _=>G1,fun e=>absurd (HE1.out.symm.trans e) HR0.out⟩
 case pos =>
  have hne:(rightE g.p != 0)=false:=by simp[hr]
  have HE1:Hid (AE=if hasP L g.id=true then 29 else if leadsAll L (g.l.map Bk.b3)=false then 31 else if room≤L.length then 27 else 0):=(show _=_ by rw[HE.out,if_neg (by simp[hr])])
  have HR0:Hid (rightE g.p=0):=hr;clear hr HE;go_wp2_with fail;refine(HAt.out w1 G1).mono ?_;rintro e w2 ⟨m,rfl,hm,rfl⟩;cases hHB:hasP L g.id with
  | true =>
    have HE2:Hid (AE=29):=(show _=_ by rw[HE1.out,hHB];rfl)
    rw[hHB]at hm;clear hHB hne;go_wp2_with fail;go_ret;exact⟨by rw[HE2.out];rfl,fun _=>G1,fun e=>by rw[HE2.out]at e;cases e⟩
  | false =>
    have HHB:Hid (hasP L g.id=false):=hHB;have HE1b:Hid (AE=if leadsAll L (g.l.map Bk.b3)=false then 31 else if room≤L.length then 27 else 0):=(show _=_ by rw[HE1.out,hHB];rfl)
    rw[hHB]at hm;clear hHB hne HE1;go_wp2_with fail;refine(HTh.out HR0.out w2 G1).mono ?_;rintro e w4 ⟨rfl,g4⟩;have G14:Below V.heap.size V w4:=btr g1 g4 (Nat.le_refl _);obtain⟨⟨f0,f1,f2⟩,G4,z4⟩:=HX.out w4 G14;clear g4 c0 c1 c2 z1 hm;cases hLB:leadsAll L (g.l.map Bk.b3)with
    | false =>
      have HE2:Hid (AE=31):=(show _=_ by rw[HE1b.out,hLB];rfl)
      clear hLB;go_wp2_with fail;go_ret;exact⟨by rw[HE2.out];rfl,fun _=>G4,fun e=>by rw[HE2.out]at e;cases e⟩
    | true =>
      have HE2:Hid (AE=if room≤L.length then 27 else 0):=(show _=_ by rw[HE1b.out,hLB];rfl)
      have tT:=HRT.out w4 G4;obtain⟨a,c,rfl,hlc,hc2,_⟩:=tT.slice;have t0:=tT.c0;have t1:=tT.c1;have tl:=tT.lt;clear hLB HE1b tT;go_wp2_with fail;go_quiet (fail);obtain⟨w5,h5⟩:∃ w5,w4.drewN nq=w5:=⟨_,rfl⟩
      have g5:Below w4.heap.size w4 w5:=by rw[← h5];exact bdr (Below.refl _ _) _
      rw[h5];have G15:Below V.heap.size V w5:=btr G14 g5 (Nat.le_refl _);obtain⟨⟨q0,q1,q2⟩,G5,z5⟩:=HX.out w5 G15;have T5:=HRT.out w5 G5;have s0:=T5.c0;have sl:=T5.lt;clear h5 g5 f0 f1 f2 t0 t1 tl T5 z4;obtain⟨RB,hRB⟩:∃ RB,decide (room≤(L.length:Int))=RB:=⟨_,rfl⟩
      rw[hRB];cases RB with
      | true =>
        have HE3:Hid (AE=27):=(show _=_ by rw[HE2.out,if_pos (of_decide_eq_true hRB)])
        clear hRB;go_wp2_with fail;go_ret;exact⟨by rw[HE3.out];rfl,fun _=>G5,fun e=>by rw[HE3.out]at e;cases e⟩
      | false =>
        have HE3:Hid (AE=0):=(show _=_ by rw[HE2.out,if_neg (of_decide_eq_false hRB)])
        have H0:Hid (LfI w5 (g::L) (.slice none 0 0) [] w5∧AdI g L 0 false []):=(show _∧_ from⟨⟨World.ownsRow_nil _ _ _ _,Below.refl _ _,by simp⟩,.inl ⟨rfl,by simp,by simp⟩⟩)
        have HG5:Hid (Below w.heap.size w w5∧Below V.heap.size V w5):=(show _∧_ from⟨G5,G15⟩)
        clear hRB G5 G15 q0 q1 q2 z5;go_wp2_with fail;clear s0 sl;go_loopw [6,7,8] (fun v6 v7 v8 wr=>∃ (q:Nat) (d:Bool) (out:List Gr),q≤L.length∧v7=.bool d∧v8=.int .i64 q∧Hid (LfI w5 (g::L) v6 out wr∧AdI g L q d out)) (fun _ _ v _=>L.length-(intOf v).toNat);case atStart=>exact⟨0,false,[],Nat.zero_le _,rfl,rfl,H0⟩
        case round =>
         obtain⟨q,d,out,hq,rfl,rfl,HI⟩:=hrel;have k5:=HI.out.1.bel;have Gr1:Below w.heap.size w wr:=btr HG5.out.1 k5 (Nat.le_refl _);have hT1:=HRT.out wr Gr1;have s0:=hT1.c0;have sl:=hT1.lt;have sf:=hT1.f0;have hout:out.length≤65:=by have:=HI.out.2.len;have:=HL.out;omega
         by_cases hlt:q<L.length
         ·obtain⟨b,hab,hbz,hcs⟩:∃ b,a=some ⟨b,0,none⟩∧b<wr.heap.size∧Cg wr b (q*3) L[q]:=by
           obtain⟨a',c',e,_,_,h|⟨b,e2,h2,h3⟩⟩:=hT1.slice
           ·subst h;cases hlt
           ·cases e;exact⟨b,e2,h2,h3 q hlt⟩
          subst hab;have HCl:Hid (∀ w',Below wr.heap.size wr w'→Below w.heap.size w w'∧w'.cell? ⟨rb,0,none⟩=some (.slice (some ⟨b,0,none⟩) L.length c)∧rb<w'.heap.size∧b<w'.heap.size∧w'.cell? ⟨b,q*3,none⟩=some (.int .i64 L[q].id)∧w'.cell? ⟨b,q*3+1,none⟩=some (.int .i64 L[q].kd)∧w'.cell? ⟨b,q*3+2,none⟩=some (.slice L[q].a L[q].l.length L[q].c)):=(show ∀ w',_ from fun w' k=>⟨btr Gr1 k (Nat.le_refl _),(k.cell (p:=⟨rb,0,none⟩) sl).trans s0,Nat.lt_of_lt_of_le sl k.size,Nat.lt_of_lt_of_le hbz k.size,hcs.below hbz k⟩)
          have HCl2:Hid (∀ w',Below w5.heap.size w5 w'→w'.cell? ⟨rb,0,none⟩=some (.slice (some ⟨b,0,none⟩) L.length c)∧rb<w'.heap.size∧b<w'.heap.size∧w'.cell? ⟨b,q*3,none⟩=some (.int .i64 L[q].id)∧w'.cell? ⟨b,q*3+1,none⟩=some (.int .i64 L[q].kd)∧w'.cell? ⟨b,q*3+2,none⟩=some (.slice L[q].a L[q].l.length L[q].c)):=(show ∀ w',_ from fun w' k=>by
           have h7:=HRT.out w' (btr HG5.out.1 k (Nat.le_refl _));obtain⟨a',c',e,_,_,h|⟨b',e2,h2,h3⟩⟩:=h7.slice
           ·subst h;cases hlt
           ·cases e;cases e2;exact⟨h7.c0,h7.lt,h2,h3 q hlt⟩)
          have HGc:Hid (∀ w',Below w5.heap.size w5 w'→(w'.cell? ⟨w.heap.size,0,none⟩=some (.int .i64 g.id)∧w'.cell? ⟨w.heap.size,1,none⟩=some (.int .i64 g.kd)∧w'.cell? ⟨w.heap.size,2,none⟩=some (.slice g.a g.l.length g.c))∧w.heap.size<w'.heap.size):=(show ∀ w',_ from fun w' k=>by
           obtain⟨h1,_,h3⟩:=HX.out w' (btr HG5.out.2 k (Nat.le_refl _));exact⟨h1,h3⟩)
          obtain⟨⟨q0,q1,q2⟩,qz⟩:=HGc.out wr k5;obtain⟨d0,d1,d2⟩:=hcs;have HXr:Hid (L[q]∈g::L):=(show _ from List.mem_cons_of_mem _ (List.getElem_mem hlt))
          have HAh:Hid (d=false→g.id<L[q].id→AdI g L (q+1) true ((out++[g])++[L[q]])):=(show _→_→_ from fun e h=>by subst e;exact HI.out.2.here hlt h)
          have HAn:Hid (d=false→¬ g.id<L[q].id→AdI g L (q+1) false (out++[L[q]])):=(show _→_→_ from fun e h=>by subst e;exact HI.out.2.next hlt h)
          have HAm:Hid (d=true→AdI g L (q+1) true (out++[L[q]])):=(show _→_ from fun e=>by subst e;exact HI.out.2.more hlt)
          have HLf:Hid (LfI w5 (g::L) u6 out wr):=HI.out.1;clear HI hT1 HFin HTh HAt;generalize L[q]=X at *
          obtain⟨xi,xk,xa,xl,xc⟩:=X;obtain⟨gi,gk,ga,gl,gc⟩:=g;simp only at *
          cases d with
          | true =>
            have HAd:Hid (AdI (Gr.mk gi gk ga gl gc) L (q+1) true (out++[Gr.mk xi xk xa xl xc])):=HAm.out (by trivial);clear HAm HAn HAh;go_wp2_with fail;go_quiet (fail);obtain⟨w6,hw6⟩:∃ x,wr.drewN nq=x:=⟨_,rfl⟩
            have kw6:Below wr.heap.size wr w6:=by rw[← hw6];exact bdr (Below.refl _ _) _
            rw[hw6];obtain⟨G6,p0,pl,pb,e0,e1,e2⟩:=HCl.out w6 kw6;have HL6:Hid (LfI w5 (Gr.mk gi gk ga gl gc::L) u6 out w6):=(show LfI _ _ _ _ _ from HLf.out.grow kw6)
            clear hw6 kw6 s0 sl d0 d1 d2 q0 q1 q2 HLf hbz qz;have HT6:Hid (LfI w5 (Gr.mk gi gk ga gl gc::L) u6 (out) (w6.alloc (.cells #[.int .i64 xi,.int .i64 xk,.slice xa xl.length xc] 81))):=(show LfI _ _ _ _ _ from HL6.out.grow (by go_grown))
            clear HL6;go_wp2_with (at_builtin;refine wpList_appGs rfl _ _ rfl w5 (Gr.mk gi gk ga gl gc::L) u6 (out) rfl HT6.out (some ⟨w6.heap.size,0,none⟩) 1 [Gr.mk xi xk xa xl xc] 1 rfl rfl (g1_cells _ _ _ _ _ _) (by simp;omega) (fun y hy=>by simp at hy;subst hy;exact HXr.out) ?_;intro v9 w9 hl9);clear HT6;have HR9:Hid (LfI w5 (Gr.mk gi gk ga gl gc::L) v9 ((out)++[Gr.mk xi xk xa xl xc]) w9∧AdI (Gr.mk gi gk ga gl gc) L (q+1) true (out++[Gr.mk xi xk xa xl xc])):=(show _∧_ from⟨hl9,HAd.out⟩)
            clear hl9 HAd;go_wp2_with fail;go_roundw;case rel=>exact⟨q+1,_,_,by omega,rfl,by go_num,HR9⟩
            case measure=>simp[intOf];omega
          | false =>
            by_cases hgx:gi<xi
            ·have hgb:decide (gi<xi)=true:=decide_eq_true hgx;have HAd:Hid (AdI (Gr.mk gi gk ga gl gc) L (q+1) true ((out++[Gr.mk gi gk ga gl gc])++[Gr.mk xi xk xa xl xc])):=HAh.out (by trivial) hgx;clear HAm HAn HAh hgx;go_wp2_with fail;go_quiet (fail);obtain⟨w6,hw6⟩:∃ x,wr.drewN nq=x:=⟨_,rfl⟩
             have kw6:Below wr.heap.size wr w6:=by rw[← hw6];exact bdr (Below.refl _ _) _
             rw[hw6];obtain⟨G6,p0,pl,pb,e0,e1,e2⟩:=HCl.out w6 kw6;have HL6:Hid (LfI w5 (Gr.mk gi gk ga gl gc::L) u6 out w6):=(show LfI _ _ _ _ _ from HLf.out.grow kw6)
             obtain⟨⟨r0,r1,r2⟩,rz⟩:=HGc.out w6 HL6.out.bel;clear hw6 s0 sl d0 d1 d2 q0 q1 q2 HLf hbz qz hgb;have HT7:Hid (LfI w5 (Gr.mk gi gk ga gl gc::L) u6 out (w6.alloc (.cells #[.int .i64 gi,.int .i64 gk,.slice ga gl.length gc] 81))):=(show LfI _ _ _ _ _ from HL6.out.grow (by go_grown))
             clear HL6 p0 pl pb e0 e1 e2;go_wp2_with (at_builtin;first|(refine wpList_appGs rfl _ _ rfl w5 (Gr.mk gi gk ga gl gc::L) u6 out rfl HT7.out (some ⟨w6.heap.size,0,none⟩) 1 [Gr.mk gi gk ga gl gc] 1 rfl rfl (g1_cells _ _ _ _ _ _) (by simp;omega) (fun y hy=>by simp at hy;subst hy;exact List.mem_cons_self) ?_;intro v7 w7 hl7;obtain⟨p0,pl,pb,e0,e1,e2⟩:=HCl2.out w7 hl7.bel;have HL7:Hid (LfI w5 (Gr.mk gi gk ga gl gc::L) v7 (out++[Gr.mk gi gk ga gl gc]) w7):=hl7;(have hout2:(out++[Gr.mk gi gk ga gl gc]).length≤66:=by simp;omega);clear hl7 HT7 r0 r1 r2 rz;have HT6:Hid (LfI w5 (Gr.mk gi gk ga gl gc::L) v7 (out++[Gr.mk gi gk ga gl gc]) (w7.alloc (.cells #[.int .i64 xi,.int .i64 xk,.slice xa xl.length xc] 81))):=(show LfI _ _ _ _ _ from HL7.out.grow (by go_grown));clear HL7)|(refine wpList_appGs rfl _ _ rfl w5 (Gr.mk gi gk ga gl gc::L) v7 (out++[Gr.mk gi gk ga gl gc]) rfl HT6.out (some ⟨w7.heap.size,0,none⟩) 1 [Gr.mk xi xk xa xl xc] 1 rfl rfl (g1_cells _ _ _ _ _ _) (by simp;omega) (fun y hy=>by simp at hy;subst hy;exact HXr.out) ?_;intro v9 w9 hl9));clear HT6;have HR9:Hid (LfI w5 (Gr.mk gi gk ga gl gc::L) v9 ((out++[Gr.mk gi gk ga gl gc])++[Gr.mk xi xk xa xl xc]) w9∧AdI (Gr.mk gi gk ga gl gc) L (q+1) true ((out++[Gr.mk gi gk ga gl gc])++[Gr.mk xi xk xa xl xc])):=(show _∧_ from⟨hl9,HAd.out⟩)
             clear hl9 HAd;go_wp2_with fail;go_roundw;case rel=>exact⟨q+1,_,_,by omega,rfl,by go_num,HR9⟩
             case measure=>simp[intOf];omega
            ·have hgb:decide (gi<xi)=false:=decide_eq_false hgx;have HAd:Hid (AdI (Gr.mk gi gk ga gl gc) L (q+1) false (out++[Gr.mk xi xk xa xl xc])):=HAn.out (by trivial) hgx;clear HAm HAn HAh hgx;go_wp2_with fail;go_quiet (fail);obtain⟨w6,hw6⟩:∃ x,wr.drewN nq=x:=⟨_,rfl⟩
             have kw6:Below wr.heap.size wr w6:=by rw[← hw6];exact bdr (Below.refl _ _) _
             rw[hw6];obtain⟨G6,p0,pl,pb,e0,e1,e2⟩:=HCl.out w6 kw6;have HL6:Hid (LfI w5 (Gr.mk gi gk ga gl gc::L) u6 out w6):=(show LfI _ _ _ _ _ from HLf.out.grow kw6)
             clear hw6 kw6 s0 sl d0 d1 d2 q0 q1 q2 HLf hbz qz hgb;have HT6:Hid (LfI w5 (Gr.mk gi gk ga gl gc::L) u6 (out) (w6.alloc (.cells #[.int .i64 xi,.int .i64 xk,.slice xa xl.length xc] 81))):=(show LfI _ _ _ _ _ from HL6.out.grow (by go_grown))
             clear HL6;go_wp2_with (at_builtin;refine wpList_appGs rfl _ _ rfl w5 (Gr.mk gi gk ga gl gc::L) u6 (out) rfl HT6.out (some ⟨w6.heap.size,0,none⟩) 1 [Gr.mk xi xk xa xl xc] 1 rfl rfl (g1_cells _ _ _ _ _ _) (by simp;omega) (fun y hy=>by simp at hy;subst hy;exact HXr.out) ?_;intro v9 w9 hl9);clear HT6;have HR9:Hid (LfI w5 (Gr.mk gi gk ga gl gc::L) v9 ((out)++[Gr.mk xi xk xa xl xc]) w9∧AdI (Gr.mk gi gk ga gl gc) L (q+1) false (out++[Gr.mk xi xk xa xl xc])):=(show _∧_ from⟨hl9,HAd.out⟩)
             clear hl9 HAd;go_wp2_with fail;go_roundw;case rel=>exact⟨q+1,_,_,by omega,rfl,by go_num,HR9⟩
             case measure=>simp[intOf];omega
         ·have e:q=L.length:=by omega
          subst e;obtain⟨⟨q0,q1,q2⟩,_,qz⟩:=HX.out wr (btr HG5.out.2 k5 (Nat.le_refl _));cases d with
          | true =>
            obtain⟨a6,c6,e6⟩:=HI.out.1.form;subst e6;have HF:Hid (RT W rb room (.slice a6 out.length c6) (insG g L) (wr.setCell ⟨rb,0,none⟩ (.slice a6 out.length c6))∧w.grownBy (wr.setCell ⟨rb,0,none⟩ (.slice a6 out.length c6)) (some rb)∧∀ b,(Value.slice a6 out.length c6).ownBlock=some b→w.heap.size≤b):=HFin.out HR0.out HHB.out w5 wr (.slice a6 out.length c6) out HI.out.2.endT.symm HG5.out.1 HI.out.1;clear HI hT1 HFin k5 Gr1;go_wp2_with fail;go_ret;exact⟨by rw[HE3.out];rfl,fun e=>absurd HE3.out e,fun _=>⟨_,HF.out⟩⟩
          | false =>
            have HEn:Hid (insG g L=out++[g]):=HI.out.2.endF;have HFi:Hid (∀ w2 v' L',L'=insG g L→LfI w5 (g::L) v' L' w2→RT W rb room v' (insG g L) (w2.setCell ⟨rb,0,none⟩ v')∧w.grownBy (w2.setCell ⟨rb,0,none⟩ v') (some rb)∧∀ b,v'.ownBlock=some b→w.heap.size≤b):=(show ∀ w2 v' L',_ from fun w2 v' L' e h=>HFin.out HR0.out HHB.out w5 w2 v' L' e HG5.out.1 h)
            have HT7:Hid (LfI w5 (g::L) u6 out (wr.alloc (.cells #[.int .i64 g.id,.int .i64 g.kd,.slice g.a g.l.length g.c] 81))):=(show LfI _ _ _ _ _ from HI.out.1.grow (by go_grown))
            clear HI hT1 HFin k5 Gr1 HTh HAt HX;obtain⟨gi,gk,ga,gl,gc⟩:=g;simp only at *
            go_wp2_with (at_builtin;refine wpList_appGs rfl _ _ rfl w5 (Gr.mk gi gk ga gl gc::L) u6 out rfl HT7.out (some ⟨wr.heap.size,0,none⟩) 1 [Gr.mk gi gk ga gl gc] 1 rfl rfl (g1_cells _ _ _ _ _ _) (by simp;omega) (fun y hy=>by simp at hy;subst hy;exact List.mem_cons_self) ?_;intro v7 w7 hl7;obtain⟨a7,n7,c7,e7⟩:=hl7.form2;subst e7;have hT7:=HRT.out w7 (btr HG5.out.1 hl7.bel (Nat.le_refl _));have p0:=hT7.c0;have pf:=hT7.f0;have pl:=hT7.lt;have HF:=HFi.out w7 (.slice a7 n7 c7) _ HEn.out.symm hl7;have HF:Hid (RT W rb room (.slice a7 n7 c7) (insG (Gr.mk gi gk ga gl gc) L) (w7.setCell ⟨rb,0,none⟩ (.slice a7 n7 c7))∧w.grownBy (w7.setCell ⟨rb,0,none⟩ (.slice a7 n7 c7)) (some rb)∧∀ b,(Value.slice a7 n7 c7).ownBlock=some b→w.heap.size≤b):=HF;clear HT7 s0 sf sl q0 q1 q2 qz hT7 hl7 HFi);go_ret;exact⟨by rw[HE3.out];rfl,fun e=>absurd HE3.out e,fun _=>⟨_,HF.out⟩⟩
theorem goAt_in:∀ (x:List Bk) (b:Bk) (y:List Bk) (n:Int),Wt x→sumW x≤n→n<sumW x+b.we→goAt (x++b::y) n=[b]
 | [],b,y,n,_,h0,h1=>by
   simp only[sumW]at h0 h1;rw[List.nil_append,goAt,if_pos (by omega)]
 | a::x,b,y,n,hW,h0,h1=>by
   have ha:=hW a (by simp);have hx:Wt x:=fun z hz=>hW z (by simp[hz]);have hs:=hx.sum;simp only[sumW]at h0 h1;rw[List.cons_append,goAt,if_neg (by omega)];exact goAt_in x b y (n-a.we) hx (by omega) (by omega)
theorem at_split:∀ (l:List Bk) (n:Int),Wt l→0≤n→n<sumW l→∃ x b y,l=x++b::y∧sumW x≤n∧n<sumW x+b.we
 | [],n,_,h0,h1=>by simp only[sumW]at h1;omega
 | a::l,n,hW,h0,h1=>by
   by_cases h:n<a.we
   ·exact⟨[],a,l,rfl,by simpa [sumW]using h0,by simpa [sumW]using h⟩
   ·simp only[sumW]at h1;obtain⟨x,b,y,e,h2,h3⟩:=at_split l (n-a.we) (fun z hz=>hW z (by simp[hz])) (by omega) (by omega);exact⟨a::x,b,y,by rw[e];rfl,by simp only[sumW];omega,by simp only[sumW];omega⟩
theorem sumW_rev (l:List Bk):sumW l.reverse=sumW l:=by
 induction l with
 | nil=>rfl
 | cons b l ih=>rw[List.reverse_cons,sumW_append,ih];simp only[sumW];omega
theorem goAt_rev {l:List Bk} (hW:Wt l) {m:Int} (h0:0≤m) (h1:m<sumW l):goAt l.reverse (sumW l-1-m)=goAt l m:=by
 obtain⟨x,b,y,e,h2,h3⟩:=at_split l m hW h0 h1;subst e;rw[goAt_in x b y m (fun z hz=>hW z (by simp[hz])) h2 h3];have e1:(x++b::y).reverse=y.reverse++b::x.reverse:=by simp
 rw[e1];have hs:=sumW_append x (b::y);simp only[sumW]at hs;have hr:=sumW_rev y;exact goAt_in y.reverse b x.reverse _ (fun z hz=>hW z (by simp at hz;simp[hz])) (by omega) (by omega)
theorem neg_mod (n S:Int) (h:0<S):(-(n+1)) % S=S-1-n % S:=by
 have h1:=Int.emod_add_mul_ediv n S;have h2:=Int.emod_nonneg n (show S≠0 by omega);have h3:=Int.emod_lt_of_pos n h;have e : -(n+1)=(S-1-n % S)+S*(-(n/S)-1):=by
  rw[Int.mul_sub,Int.mul_neg,Int.mul_one];omega
 rw[e,Int.add_mul_emod_self_left];exact Int.emod_eq_of_lt (by omega) (by omega)
theorem pick_at {l:List Bk} (hW:Wt l) (n:Int):pickL l n=atL l n:=by
 unfold pickL;split
 ·unfold atL;by_cases hl:l=[]
  ·subst hl;rfl
  ·rw[if_neg (by simpa using hl),if_neg hl,sumW_rev];have hp:=hW.pos hl;rw[neg_mod n _ hp];exact goAt_rev hW (Int.emod_nonneg _ (by omega)) (Int.emod_lt_of_pos _ hp)
 ·rfl
theorem filt_two (live:List Bool) (l:List Bk):(l.filter fun b=>alvB live b.wa).filter (fun b=>decide (0<b.we))=l.filter fun b=>alvB live b.wa&&decide (0<b.we):=by
 rw[List.filter_filter];congr 1;funext b;exact Bool.and_comm _ _
abbrev mayB (live:List Bool) (b:Bk):Bool:=alvB live b.wa&&decide (0<b.we)
theorem ralive_any (b:Bk) (la:Option Addr) (live:List Bool) (lc:Nat) (w:World) (hV:Ls w la live) (hm:live.length≤1000) :
 Calls prog 162 #[bkV b,.slice la live.length lc] w fun e w'=>e=.returned (.bool (alvB live b.wa))∧Below w.heap.size w w':=by
 obtain⟨wa,we,xa,xl,xc⟩:=b;show Calls prog 162 #[.agg #[.int .i64 wa,.int .i64 we,.slice xa xl.length xc],.slice la live.length lc] w fun e w'=>e=.returned (.bool (alvB live wa))∧Below w.heap.size w w';cases h0:(wa==0)with
 | true =>
   have hA:alvB live wa=true:=by unfold alvB;rw[h0];rfl
   rw[hA];clear hV hA;go_enter func162,ntmps162;go_wp2_with fail;go_ret;exact⟨rfl,by go_grown⟩
 | false =>
   have hne:wa≠0:=by simpa using h0
   by_cases h1:0<wa
   ·have d1:decide (0<wa)=true:=decide_eq_true h1;by_cases h2:wa<live.length
    ·have d2:decide (wa<(live.length:Int))=true:=decide_eq_true h2;have hlv:wa.toNat<live.length:=by omega
     obtain⟨lg,lo,rfl,hlg,hlc⟩:∃ g o,la=some ⟨g,o,none⟩∧g<w.heap.size∧∀ i (h:i<live.length),w.cell? ⟨g,o+i,none⟩=some (.bool live[i]):=by
      rcases hV with h|h
      ·subst h;simp at hlv
      ·exact h
     have hcell:=hlc wa.toNat hlv;have hA:alvB live wa=live[wa.toNat]:=by
      have hi:inB wa 1 ((live.length:Int)-1)=true:=by unfold inB;simp;omega
      unfold alvB livB;rw[h0,hi];simp[List.getD,hlv]
     rw[hA];clear hlc hV hA;generalize live[wa.toNat]=LB at *
     go_enter func162,ntmps162;go_wp2_with fail;go_ret;exact⟨rfl,by go_grown⟩
    ·have d2:decide (wa<(live.length:Int))=false:=decide_eq_false h2;have hA:alvB live wa=false:=by
      have hi:inB wa 1 ((live.length:Int)-1)=false:=by unfold inB;simp;omega
      unfold alvB;rw[h0,hi];rfl
     rw[hA];clear hV hA h2;go_enter func162,ntmps162;go_wp2_with fail;go_ret;exact⟨rfl,by go_grown⟩
   ·have d1:decide (0<wa)=false:=decide_eq_false h1;have hA:alvB live wa=false:=by
     have hi:inB wa 1 ((live.length:Int)-1)=false:=by unfold inB;simp;omega
     unfold alvB;rw[h0,hi];rfl
    rw[hA];clear hV hA h1;go_enter func162,ntmps162;go_wp2_with fail;go_ret;exact⟨rfl,by go_grown⟩
end Gp
end Go.Proofs.YtgnihbdcdefdgaaGreatDoor

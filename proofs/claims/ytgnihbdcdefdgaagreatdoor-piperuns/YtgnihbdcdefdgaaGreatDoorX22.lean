import Derived.Test.YtgnihbdcdefdgaaGreatDoorX21
import Derived.Maps.AppendAt
set_option maxRecDepth 20000
set_option maxHeartbeats 8000000
set_option linter.unusedVariables false
open Go.ChangeShapes Go.WideShapes Go.ChangeAt Go.RowKit
open Go.Proofs.Tryz
namespace Go.Proofs.YtgnihbdcdefdgaaGreatDoor
namespace Gp
open Go.Maps
theorem upd_run {w:World} (mb:Nat) (L:List Gr) (g:Gr) (hown:w.ownsMap prog 3 Re mb L.length (mD L)) (hn:L.length≤100) (h0 : -9223372036854775808≤g.id) (h1:g.id≤9223372036854775807) :
 ∃ w',(Instr.mapUpdate 125 (.map (some mb)) (.int .i64 g.id) (.agg #[.int .i64 g.id,.int .i64 g.kd,.slice g.a g.l.length g.c])).run prog w=.ok () w'∧w'.ownsMap prog 3 Re mb (L.length+1) ((mD L).put (kL g.id) (.held g.h))∧w.grownBy w' (some mb):=by
 obtain⟨w',h2,h3,h4⟩:=hown.store law underlying125 (by unfold maxLen;omega) (key_wf h0 h1) (val:=gV g) (d:=.held g.h) (ps:=[]) (by rw[← hV_h];exact Re_mk _);exact⟨w',h2,h3,h4.grown⟩
theorem copyOf_parts (g:Gr) (w:World) (hT:Bs w g.a g.l) (hn:Sm g.l):Calls prog 47 #[gV g] w fun e w'=>∃ a' r c',e=.returned (.agg #[.int .i64 g.id,.int .i64 g.kd,.slice a' r.length c'])∧(Gr.mk g.id g.kd a' r c').p=g.p∧BsF w.heap.size w' a' r∧Below w.heap.size w w':=by
 refine(copyOf_any g w hT hn).mono ?_;rintro e w' ⟨⟨i,k,a',r,c'⟩,rfl,hp,hb,gb⟩;obtain⟨gi,gk,ga,gl,gc⟩:=g;have e1:i=gi:=congrArg (fun x=>x.1) hp;have e2:k=gk:=congrArg (fun x=>x.2.1) hp;subst e1;subst e2;exact⟨a',r,c',rfl,hp,hb,gb⟩
end Gp
open Go.Maps
theorem Cd.grown {w w':World} {tb mb:Nat} {room:Int} {L:List Gp.Gr} (h:Cd w) (t:Gp.Tb w tb mb room L) (k:w.grownBy w' (some mb)):Cd w':=by
 have hp:=h.pos;have ne:∀ j c ty fr,w.heap[j]? = some (.cells c ty fr)→some j≠some mb:=fun j c ty fr hj e=>by
  cases e;obtain⟨es,clock,h1,_⟩:=t.own;rw[hj]at h1;cases h1
 obtain⟨⟨t0,f0,h0⟩,⟨t1,f1,h1⟩⟩:=h;exact⟨⟨t0,f0,(k.block 0 (by omega) (ne _ _ _ _ h0)).trans h0⟩,⟨t1,f1,(k.block 1 hp (ne _ _ _ _ h1)).trans h1⟩⟩
namespace Gp
theorem sm_of {g g':Gr} (h:Sm g.l) (hp:g'.p=g.p):Sm g'.l:=by
 have e:g'.l.map Bk.b3=g.l.map Bk.b3:=congrArg (fun x=>x.2.2) hp;refine⟨?_,?_⟩
 ·have:=congrArg List.length e;simp at this;rw[this];exact h.n
 ·intro b hb;have hm:b.b3∈g.l.map Bk.b3:=by rw[← e];exact List.mem_map.2 ⟨b,hb,rfl⟩
  obtain⟨x,hx,ex⟩:=List.mem_map.1 hm;have:x.l=b.l:=congrArg (fun y:B3=>y.2.2) ex;rw[← this];exact h.a x hx
theorem add_any {tb mb:Nat} {room:Int} {L:List Gr} (g:Gr) (w:World) (h:Tb w tb mb room L) (hT:Bs w g.a g.l) (hS:Sm g.l) (hd:Cd w) (h0 : -9223372036854775808≤g.id) (h1:g.id≤9223372036854775807) (hL:L.length≤64) :
 Calls prog 28 #[ptr tb,gV g] w fun e w'=>e=.returned (.int .i64 (addE room L g))∧(addE room L g≠0→Below w.heap.size w w')∧(addE room L g=0→∃ g':Gr,g'.p=g.p∧Tb w' tb mb room (putG g' L)∧w.grownBy w' (some mb)∧Cd w'∧∀ b,InB g'.a g'.l b→w.heap.size≤b):=by
 have HR:Hid (∀ w1,Below w.heap.size w w1→Calls prog 57 #[gV g] w1 fun e w'=>e=.returned (.int .i64 (rightE g.p))∧Below w1.heap.size w1 w'):=(show ∀ w1,_ from fun w1 k=>right_g g w1 (hT.below k) hS (hd.below k))
 have HH:Hid (∀ w1,Below w.heap.size w w1→Calls prog 58 #[ptr tb,.int .i64 g.id] w1 fun e w'=>e=.returned (.bool (hasP L g.id))∧Below w1.heap.size w1 w'):=(show ∀ w1,_ from fun w1 k=>has_any g.id w1 (h.below k) h0 h1)
 have HLd:Hid (rightE g.p=0→∀ w1,Below w.heap.size w w1→Calls prog 60 #[gV g] w1 fun e w'=>∃ v zs,e=.returned v∧OwnI w1.heap.size w' v zs∧(∀ x,x∈zs↔x∈rawL (g.l.map Bk.b3))∧zs.length≤10000∧Below w1.heap.size w1 w'):=(show _→∀ w1,_ from fun hr w1 k=>leads_any g w1 (hT.below k) hS (LO_of hr))
 have HA:Hid (rightE g.p=0→∀ (v:Value) (zs:List Int) w1 base,Below w.heap.size w w1→OwnI base w1 v zs→(∀ x,x∈zs↔x∈rawL (g.l.map Bk.b3))→zs.length≤10000→Calls prog 59 #[ptr tb,v] w1 fun e w'=>e=.returned (.bool (leadsAll L (g.l.map Bk.b3)))∧Below w1.heap.size w1 w'):=(show _→∀ (v:Value) (zs:List Int) w1 base,_ from fun hr v zs w1 base k ho hz hn=>by
  have:=hasAll_any v zs w1 base (h.below k) ho (fun x hx=>by have:=raw_wf hr ((hz x).1 hx);omega) hn;rw[all_mem hz]at this;exact this)
 have HC:Hid (∀ w1,Below w.heap.size w w1→Calls prog 47 #[gV g] w1 fun e w'=>∃ a' r c',e=.returned (.agg #[.int .i64 g.id,.int .i64 g.kd,.slice a' r.length c'])∧(Gr.mk g.id g.kd a' r c').p=g.p∧BsF w1.heap.size w' a' r∧Below w1.heap.size w1 w'):=(show ∀ w1,_ from fun w1 k=>copyOf_parts g w1 (hT.below k) hS)
 have HT:Hid (∀ w1,Below w.heap.size w w1→Tb w1 tb mb room L):=(show ∀ w1,_ from fun w1 k=>h.below k)
 have HD:Hid (∀ w1,Below w.heap.size w w1→Cd w1):=(show ∀ w1,_ from fun w1 k=>hd.below k)
 have HL:Hid (L.length≤64):=hL;have HS:Hid (Sm g.l):=hS;have HE:Hid (addE room L g=if rightE g.p≠0 then rightE g.p else if hasP L g.id=true then 29 else if leadsAll L (g.l.map Bk.b3)=false then 31 else if room≤L.length then 27 else 0):=(show _=_ from rfl)
 obtain⟨V,hV⟩:∃ V,gx w g=V:=⟨_,rfl⟩
 have GV:Below w.heap.size w V:=by rw[← hV];go_grown
 have zV:w.heap.size<V.heap.size:=by rw[← hV];simp
 have hc:=Cg.new w g;rw[hV]at hc;have HX:Hid (∀ w',Below V.heap.size V w'→(w'.cell? ⟨w.heap.size,0,none⟩=some (.int .i64 g.id)∧w'.cell? ⟨w.heap.size,1,none⟩=some (.int .i64 g.kd)∧w'.cell? ⟨w.heap.size,2,none⟩=some (.slice g.a g.l.length g.c))∧Below w.heap.size w w'):=(show ∀ w',_ from fun w' k=>⟨hc.below zV k,btr GV k (Nat.le_refl _)⟩)
 have HV:Hid (w.alloc (.cells #[.int .i64 g.id,.int .i64 g.kd,.slice g.a g.l.length g.c] 81)=V):=hV;obtain⟨k0,k1,k2⟩:=(HX.out V (Below.refl _ _)).1;clear h hT hS hd hL hc zV hV;generalize addE room L g=AE at *
 go_enter func28,ntmps28;go_wp2_with fail;rw[HV.out];refine(HR.out V GV).mono ?_;rintro e w1 ⟨rfl,g1⟩;obtain⟨⟨c0,c1,c2⟩,G1⟩:=HX.out w1 g1;clear k0 k1 k2 HR HV;by_cases hr:rightE g.p=0;case neg =>
  have hne:(rightE g.p != 0)=true:=by simpa using hr
  have HE1:Hid (AE=rightE g.p):=(show _=_ by rw[HE.out,if_pos hr])
  have HR0:Hid (rightE g.p≠0):=hr;clear hr HE;go_wp2_with fail;go_ret;exact⟨by rw[HE1.out];rfl,fun _=>G1,fun e=>absurd (HE1.out.symm.trans e) HR0.out⟩
 case pos =>
  have hne:(rightE g.p != 0)=false:=by simp[hr]
  have HE1:Hid (AE=if hasP L g.id=true then 29 else if leadsAll L (g.l.map Bk.b3)=false then 31 else if room≤L.length then 27 else 0):=(show _=_ by rw[HE.out,if_neg (by simp[hr])])
  have HR0:Hid (rightE g.p=0):=hr;clear hr HE;go_wp2_with fail;refine(HH.out w1 G1).mono ?_;rintro e w2 ⟨rfl,g2⟩;have G12:Below V.heap.size V w2:=btr g1 g2 (Nat.le_refl _);obtain⟨⟨d0,d1,d2⟩,G2⟩:=HX.out w2 G12;clear g2 c0 c1 c2 hne HH;generalize hasP L g.id=HB at *
  cases HB with
  | true =>
    have HE2:Hid (AE=29):=HE1.out;go_wp2_with fail;go_ret;exact⟨by rw[HE2.out];rfl,fun _=>G2,fun e=>by rw[HE2.out]at e;cases e⟩
  | false =>
    go_wp2_with fail;refine(HLd.out HR0.out w2 G2).mono ?_;rintro e w3 ⟨v,zs,rfl,ho,hz,hn,g3⟩;have G13:Below V.heap.size V w3:=btr G12 g3 (Nat.le_refl _);obtain⟨⟨e0,e1,e2⟩,G3⟩:=HX.out w3 G13;have HA':Hid (Calls prog 59 #[ptr tb,v] w3 fun e w'=>e=.returned (.bool (leadsAll L (g.l.map Bk.b3)))∧Below w3.heap.size w3 w'):=HA.out HR0.out v zs w3 _ G3 ho hz hn;clear g3 d0 d1 d2 HLd HA ho hz hn;go_wp2_with fail;refine HA'.out.mono ?_;rintro e w4 ⟨rfl,g4⟩;have G14:Below V.heap.size V w4:=btr G13 g4 (Nat.le_refl _);obtain⟨⟨f0,f1,f2⟩,G4⟩:=HX.out w4 G14;clear g4 e0 e1 e2 HA';generalize leadsAll L (g.l.map Bk.b3)=LB at *
    cases LB with
    | false =>
      have HE2:Hid (AE=31):=HE1.out;go_wp2_with fail;go_ret;exact⟨by rw[HE2.out];rfl,fun _=>G4,fun e=>by rw[HE2.out]at e;cases e⟩
    | true =>
      have HE2:Hid (AE=if room≤L.length then 27 else 0):=HE1.out;have tT:=HT.out w4 G4;have t0:=tT.c0;have t1:=tT.c1;have tl:=tT.lt;have hlen:∀ w ty,w.heap[mb]? = w4.heap[mb]?→(Builtin.len_ #[125] ty #[.map (some mb)]).run prog w=.ok (.int .i64 L.length) w:=fun w ty hw=>by
       have hown:w.ownsMap prog 3 Re mb L.length (mD L):=by
        obtain⟨es,clock,hb,F,h3,hD⟩:=tT.own;exact⟨es,clock,hw.trans hb,F,h3,hD⟩
       have:=hown.len underlying125 ty;rwa [size_mD]at this
      clear HE1;have hln:∀ q ty,(Builtin.len_ #[125] ty #[.map (some mb)]).run prog (w4.drewN q)=.ok (.int .i64 L.length) (w4.drewN q):=fun q ty=>hlen _ ty rfl;have hl0:∀ ty,(Builtin.len_ #[125] ty #[.map (some mb)]).run prog w4=.ok (.int .i64 L.length) w4:=fun ty=>hlen _ ty rfl;clear hlen tT;go_wp2_with fail;go_quiet (fail);obtain⟨w5,h5⟩:∃ w5,w4.drewN nq=w5:=⟨_,rfl⟩
      have g5:Below w4.heap.size w4 w5:=by rw[← h5];exact bdr (Below.refl _ _) _
      rw[h5];have G15:Below V.heap.size V w5:=btr G14 g5 (Nat.le_refl _);obtain⟨⟨q0,q1,q2⟩,G5⟩:=HX.out w5 G15;have T5:=HT.out w5 G5;have s0:=T5.c0;have s1:=T5.c1;have sl:=T5.lt;have H5:Hid (w4.drewN nq=w5):=h5;clear h5 g5 hln hl0 f0 f1 f2 t0 t1 tl T5;obtain⟨RB,hRB⟩:∃ RB,decide (room≤(L.length:Int))=RB:=⟨_,rfl⟩
      rw[hRB];cases RB with
      | true =>
        have HE3:Hid (AE=27):=(show _=_ by rw[HE2.out,if_pos (of_decide_eq_true hRB)])
        clear hRB;go_wp2_with fail;go_ret;exact⟨by rw[HE3.out];rfl,fun _=>G5,fun e=>by rw[HE3.out]at e;cases e⟩
      | false =>
        have HE3:Hid (AE=0):=(show _=_ by rw[HE2.out,if_neg (of_decide_eq_false hRB)])
        clear hRB;go_wp2_with fail;have GD:Below w5.heap.size w5 w5.drew:=bdr (Below.refl _ _) 1;have HCD:Hid (Calls prog 47 #[gV g] w5.drew fun e w'=>∃ a' r c',e=.returned (.agg #[.int .i64 g.id,.int .i64 g.kd,.slice a' r.length c'])∧(Gr.mk g.id g.kd a' r c').p=g.p∧BsF w5.drew.heap.size w' a' r∧Below w5.drew.heap.size w5.drew w'):=HC.out w5.drew (btr G5 GD (Nat.le_refl _));have HF:Hid (∀ w6,Below w5.drew.heap.size w5.drew w6→Below V.heap.size V w6):=(show ∀ w6,_ from fun w6 k=>btr (btr G15 GD (Nat.le_refl _)) k (Nat.le_refl _))
        go_region_with (go_at_call 47;refine HCD.out.mono ?_;rintro e w6 ⟨a',r,c',rfl,hp,hb,g6⟩;have F6:=HF.out w6 g6;obtain⟨⟨r0,r1,r2⟩,G6⟩:=HX.out w6 F6;have T6:=HT.out w6 G6;have u1:=T6.c1;have ul:=T6.lt;obtain⟨w7,hrun,ho,hg⟩:=upd_run mb L ⟨g.id,g.kd,a',r,c'⟩ T6.own (by have:=HL.out;omega) h0 h1;simp only at hrun)
        all_goals
         have hfin:=(HT.out w5.drew (btr G5 GD (Nat.le_refl _))).put ⟨g.id,g.kd,a',r,c'⟩ g6 hb (sm_of HS.out hp) (by rw[hp];exact HR0.out) ho hg;have HFin:Hid (Tb w7 tb mb room (putG ⟨g.id,g.kd,a',r,c'⟩ L)∧w5.drew.grownBy w7 (some mb)):=hfin;have HP:Hid ((Gr.mk g.id g.kd a' r c').p=g.p):=hp;have HNw:Hid (∀ b,InB a' r b→w.heap.size≤b):=(show ∀ b,_ from fun b hin=>Nat.le_trans (btr G5 GD (Nat.le_refl _)).size (hb.new hin))
         have HG5:Hid (Below w.heap.size w w5.drew):=btr G5 GD (Nat.le_refl _);clear hfin hp ho hg hb g6 T6 u1 ul r0 r1 r2 s0 s1 sl q0 q1 q2;go_wp2_with fail;go_ret;have hgr:=HFin.out.2;have k5:=HG5.out;have HGR:w.grownBy w7 (some mb):=⟨hgr.os.trans k5.os,hgr.tape.trans k5.tape,hgr.output.trans k5.output,Nat.le_trans k5.size hgr.size,fun i hi hne=>(hgr.block i (Nat.lt_of_lt_of_le hi k5.size) hne).trans (k5.block i hi)⟩
         refine⟨by rw[HE3.out];rfl,fun e=>absurd HE3.out e,fun _=>⟨_,HP.out,HFin.out.1,HGR,?_⟩⟩;exact⟨(HD.out w (Below.refl _ _)).grown (HT.out w (Below.refl _ _)) HGR,HNw.out⟩
abbrev Rng (w:World) (mb r n:Nat) (L:List Gr) (left:Lit→Bool) (cnt:Nat):Prop:=w.ranges prog 3 Re mb r n (mD L) left cnt
open Go.Maps Go.Sort
def flatG (l:List Gr):List Value:=l.flatMap fun t=>[.int .i64 t.id,.int .i64 t.kd,.slice t.a t.l.length t.c]
theorem flatG_length:∀ l:List Gr,(flatG l).length=l.length*3
 | []=>rfl
 | t::l=>by simp only[flatG,List.flatMap_cons,List.length_append,List.length_cons,List.length_nil];have:=flatG_length l;unfold flatG at this;rw[this];omega
theorem flatG_append (l m:List Gr):flatG (l++m)=flatG l++flatG m:=by simp[flatG]
theorem flatG_at:∀ (l:List Gr) (i:Nat) (h:i<l.length),(flatG l)[i*3]? = some (.int .i64 l[i].id)∧(flatG l)[i*3+1]? = some (.int .i64 l[i].kd)∧(flatG l)[i*3+2]? = some (.slice l[i].a l[i].l.length l[i].c)
 | t::l,0,_=>by simp[flatG]
 | t::l,i+1,h=>by
   have ih:=flatG_at l i (by simpa using h);unfold flatG at ih ⊢;rw[List.flatMap_cons,show(i+1)*3=i*3+3 by omega];simpa using ih
theorem flatG_cell (l:List Gr) (j:Nat) (u:Value) (h:(flatG l)[j]? = some u):∃ i,∃ hi:i<l.length,(j=i*3∧u=.int .i64 l[i].id)∨(j=i*3+1∧u=.int .i64 l[i].kd)∨(j=i*3+2∧u=.slice l[i].a l[i].l.length l[i].c):=by
 have hj:j<(flatG l).length:=by
  rcases Nat.lt_or_ge j (flatG l).length with h'|h'
  ·exact h'
  ·rw[List.getElem?_eq_none h']at h;cases h
 rw[flatG_length]at hj;have hi:j/3<l.length:=by omega
 obtain⟨x0,x1,x2⟩:=flatG_at l (j/3) hi;refine⟨j/3,hi,?_⟩;have:j % 3=0∨j % 3=1∨j % 3=2:=by omega
 rcases this with q|q|q
 ·have e:j=j/3*3:=by omega
  refine .inl ⟨e,?_⟩;rw[← e]at x0;exact Option.some.inj (h.symm.trans x0)
 ·have e:j=j/3*3+1:=by omega
  refine .inr (.inl ⟨e,?_⟩);rw[← e]at x1;exact Option.some.inj (h.symm.trans x1)
 ·have e:j=j/3*3+2:=by omega
  refine .inr (.inr ⟨e,?_⟩);rw[← e]at x2;exact Option.some.inj (h.symm.trans x2)
theorem flatG_one (l:List Gr):∀ u∈flatG l,u.oneCell'=true:=by
 intro u hu;unfold flatG at hu;rw[List.mem_flatMap]at hu;obtain⟨t,_,ht⟩:=hu;simp at ht;rcases ht with rfl|rfl|rfl<;>rfl
theorem infoGr:(prog.info? 81).map (fun i=>(i.zero,i.size,i.bytes))=some (some (.agg #[.int .i64 0,.int .i64 0,.slice none 0 0]),3,40):=by kernel_rfl
theorem rowG_cells {base:Nat} {w:World} {g n cap:Nat} {l:List Gr} (hn:n=l.length) (h:w.ownsRow base 81 3 (.slice (some ⟨g,0,none⟩) n cap) n (flatG l)) (i:Nat) (hi:i<l.length):Cg w g (i*3) l[i]:=by
 subst hn;obtain⟨x0,x1,x2⟩:=flatG_at l i hi;refine⟨?_,?_,?_⟩
 ·rw[h.cellAt (i*3) (by omega)];exact x0
 ·rw[h.cellAt (i*3+1) (by omega)];exact x1
 ·rw[h.cellAt (i*3+2) (by omega)];exact x2
structure LsI (V:World) (v:Value) (r:List Gr) (wr:World):Prop where
 row:wr.ownsRow V.heap.size 81 3 v r.length (flatG r)
 bel:Below V.heap.size V wr
 bs:∀ x∈r,Bs wr x.a x.l
 sm:∀ x∈r,Sm x.l
 ap:∀ x∈r,∀ b,InB x.a x.l b→v.ownBlock≠some b
theorem LsI.grow {V:World} {v:Value} {r:List Gr} {wr w2:World} (h:LsI V v r wr) (g:Below wr.heap.size wr w2):LsI V v r w2:=⟨own_below h.row g,h.bel.trans (g.mono h.bel.size),fun x hx=>(h.bs x hx).below g,h.sm,h.ap⟩
structure Gs (w:World) (a:Option Addr) (l:List Gr):Prop where
 cs:l=[]∨∃ g o,a=some ⟨g,o,none⟩∧g<w.heap.size∧∀ i (h:i<l.length),Cg w g (o+i*3) l[i]
 bs:∀ x∈l,Bs w x.a x.l
 sm:∀ x∈l,Sm x.l
theorem Gs.below {w w':World} {a:Option Addr} {l:List Gr} (h:Gs w a l) (k:Below w.heap.size w w'):Gs w' a l:=by
 refine⟨?_,fun x hx=>(h.bs x hx).below k,h.sm⟩;rcases h.cs with e|⟨g,o,ha,hg,hc⟩
 ·exact .inl e
 ·exact .inr ⟨g,o,ha,Nat.lt_of_lt_of_le hg k.size,fun i hi=>(hc i hi).below hg k⟩
theorem Gs.at {w:World} {a:Option Addr} {l:List Gr} (h:Gs w a l) {k:Nat} (hk:k<l.length):∃ g o,a=some ⟨g,o,none⟩∧g<w.heap.size∧∀ i (h:i<l.length),Cg w g (o+i*3) l[i]:=by
 rcases h.cs with rfl|h
 ·cases hk
 ·exact h
theorem LsI.gs {V:World} {v:Value} {r:List Gr} {wr:World} (h:LsI V v r wr):∃ a c,v=.slice a r.length c∧r.length≤c∧Gs wr a r:=by
 rcases h.row.2 with⟨rfl,h0⟩|⟨g,cap,cur,rfl,hbg,hb,hnc,hcm,_⟩
 ·have hr:r=[]:=List.length_eq_zero_iff.1 h0;subst hr;exact⟨none,0,rfl,Nat.le_refl _,.inl rfl,by simp,by simp⟩
 ·exact⟨_,_,rfl,hnc,.inr ⟨g,0,rfl,(Array.getElem?_eq_some_iff.1 hb).1,fun i hi=>by rw[Nat.zero_add];exact rowG_cells rfl h.row i hi⟩,h.bs,h.sm⟩
def gr0:Gr:=⟨0,0,none,[],0⟩
theorem get_any {tb mb:Nat} {room:Int} {L:List Gr} (i:Int) (w:World) (h:Tb w tb mb room L) (h0 : -9223372036854775808≤i) (h1:i≤9223372036854775807) :
 Calls prog 123 #[ptr tb,.int .i64 i] w fun e w'=>∃ (g':Gr) (er:Int),e=.returned (.tuple #[gV g',.int .i64 er])∧((hasP L i=false∧g'=gr0∧er=31)∨∃ g∈L,g.id=i∧g'.p=g.p∧er=0)∧Bs w' g'.a g'.l∧Sm g'.l∧Below w.heap.size w w':=by
 have HH:Hid (∀ w1,Below w.heap.size w w1→Calls prog 58 #[ptr tb,.int .i64 i] w1 fun e w'=>e=.returned (.bool (hasP L i))∧Below w1.heap.size w1 w'):=(show ∀ w1,_ from fun w1 k=>has_any i w1 (h.below k) h0 h1)
 have HT:Hid (∀ w1,Below w.heap.size w w1→Tb w1 tb mb room L):=(show ∀ w1,_ from fun w1 k=>h.below k)
 obtain⟨V,hV⟩:∃ V,w.alloc (.cells #[.int .i64 0,.int .i64 0,.slice none 0 0] 81)=V:=⟨_,rfl⟩
 have GV:Below w.heap.size w V:=by rw[← hV];go_grown
 have zV:w.heap.size<V.heap.size:=by rw[← hV];simp
 have b1:V.cell? ⟨w.heap.size,0,none⟩=some (.int .i64 0)∧V.cell? ⟨w.heap.size,1,none⟩=some (.int .i64 0)∧V.cell? ⟨w.heap.size,2,none⟩=some (.slice none 0 0)∧∀ o,V.frozen? ⟨w.heap.size,o,none⟩=false:=by rw[← hV];simp
 have HV:Hid (w.alloc (.cells #[.int .i64 0,.int .i64 0,.slice none 0 0] 81)=V):=hV;have HX:Hid (∀ w',Below V.heap.size V w'→(w'.cell? ⟨w.heap.size,0,none⟩=some (.int .i64 0)∧w'.cell? ⟨w.heap.size,1,none⟩=some (.int .i64 0)∧w'.cell? ⟨w.heap.size,2,none⟩=some (.slice none 0 0)∧∀ o,w'.frozen? ⟨w.heap.size,o,none⟩=false)∧Below w.heap.size w w'∧w.heap.size<w'.heap.size):=(show ∀ w',_ from fun w' k=>⟨⟨(k.cell (p:=⟨w.heap.size,0,none⟩) zV).trans b1.1,(k.cell (p:=⟨w.heap.size,1,none⟩) zV).trans b1.2.1,(k.cell (p:=⟨w.heap.size,2,none⟩) zV).trans b1.2.2.1,fun o=>(k.frozen (p:=⟨w.heap.size,o,none⟩) zV).trans (b1.2.2.2 o)⟩,btr GV k (Nat.le_refl _),Nat.lt_of_lt_of_le zV k.size⟩)
 rcases h.look false i h0 h1 with⟨hf,_⟩|⟨g,hg,hid,hf,_⟩
 ·rw[hf]at HH;have HE:Hid (hasP L i=false):=hf;clear h hV b1 zV hf;go_enter func123,ntmps123;go_wp2_with fail;rw[HV.out];refine(HH.out V GV).mono ?_;rintro e w1 ⟨rfl,g1⟩;obtain⟨⟨c0,c1,c2,cf⟩,G1,z1⟩:=HX.out w1 g1;clear g1;go_wp2_with fail;obtain⟨s0,s1,s2⟩:=s3_cells (o:=0) (x:=.int .i64 0) (y:=.int .i64 0) (z:=.slice none 0 0) c0 c1 c2;have O5:=Only.s3 w1 w.heap.size 0 (.int .i64 0) (.int .i64 0) (.slice none 0 0);refine bodyPost_ret (resGe (b:=w.heap.size) (t:=gr0) rfl rfl ⟨s0,s1,s2⟩) rfl ?_;exact⟨gr0,31,rfl,.inl ⟨HE.out,rfl,rfl⟩,⟨by simp[gr0],.inl rfl⟩,⟨by simp[gr0],by simp[gr0]⟩,O5.below (Nat.le_refl _) G1⟩
 ·rw[hf]at HH;have HLk:Hid (∀ w',Below w.heap.size w w'→(Instr.lookup 125 (.map (some mb)) (.int .i64 i) false).run prog w'=.ok (.agg #[.int .i64 g.id,.int .i64 g.kd,.slice g.a g.l.length g.c]) w'):=(show ∀ w',_ from fun w' k=>by
   rcases(h.below k).look false i h0 h1 with⟨hf2,_⟩|⟨g2,hg2,hid2,_,hr⟩
   ·rw[hf]at hf2;cases hf2
   ·have e:g2=g:=srt_one h.srt hg2 hg (hid2.trans hid.symm);subst e;exact hr)
  have HC:Hid (∀ w1,Below w.heap.size w w1→Calls prog 47 #[.agg #[.int .i64 g.id,.int .i64 g.kd,.slice g.a g.l.length g.c]] w1 fun e w'=>∃ a' r c',e=.returned (.agg #[.int .i64 g.id,.int .i64 g.kd,.slice a' r.length c'])∧(Gr.mk g.id g.kd a' r c').p=g.p∧BsF w1.heap.size w' a' r∧Below w1.heap.size w1 w'):=(show ∀ w1,_ from fun w1 k=>copyOf_parts g w1 ((h.grp g hg).bs.below k) (h.grp g hg).sm)
  have HS:Hid (Sm g.l):=(h.grp g hg).sm;have HM:Hid (g∈L∧g.id=i):=(show _∧_ from⟨hg,hid⟩)
  clear h hV b1 zV hf hg hid;go_enter func123,ntmps123;go_wp2_with fail;rw[HV.out];refine(HH.out V GV).mono ?_;rintro e w1 ⟨rfl,g1⟩;obtain⟨_,G1,z1⟩:=HX.out w1 g1;have tT:=HT.out w1 G1;have t1:=tT.c1;have tl:=tT.lt;have hlk:=HLk.out w1 G1;have Hg1:Hid (Below V.heap.size V w1):=g1;clear g1 tT;go_wp2_with fail;refine(HC.out w1 G1).mono ?_;rintro e w2 ⟨a',r,c',rfl,hp,hb,g2⟩;have gg2:Below V.heap.size V w2:=btr Hg1.out g2 (Nat.le_refl _);obtain⟨⟨c0,c1,c2,cf⟩,G2,z2⟩:=HX.out w2 gg2;have HB:Hid (BsF w1.heap.size w2 a' r):=hb;have HP:Hid ((Gr.mk g.id g.kd a' r c').p=g.p):=hp;have HSr:Hid (Sm r):=(show Sm _ from sm_of (g:=g) (g':=⟨g.id,g.kd,a',r,c'⟩) HS.out hp)
  clear hp hb g2 gg2 hlk;go_wp2_with fail;obtain⟨s0,s1,s2⟩:=s3_cells (o:=0) (x:=.int .i64 g.id) (y:=.int .i64 g.kd) (z:=.slice a' r.length c') c0 c1 c2;have O5:=Only.s3 w2 w.heap.size 0 (.int .i64 g.id) (.int .i64 g.kd) (.slice a' r.length c');refine bodyPost_ret (resGe (b:=w.heap.size) (t:=⟨g.id,g.kd,a',r,c'⟩) rfl rfl ⟨s0,s1,s2⟩) rfl ?_;refine⟨⟨g.id,g.kd,a',r,c'⟩,0,rfl,.inr ⟨g,HM.out.1,HM.out.2,HP.out,rfl⟩,?_,HSr.out,O5.below (Nat.le_refl _) G2⟩;exact(HB.out.mono (base':=w1.heap.size) (Nat.le_refl _) (by rw[O5.size];exact Nat.le_refl _) (fun b hb1 _=>O5.block b (by omega))).b
end Gp
end Go.Proofs.YtgnihbdcdefdgaaGreatDoor

import Derived.Test.YtgnihbdcdefdgaaGreatDoorX30
import Derived.Deep.QuietTactic
import Derived.BigQuiet
import Derived.Test.YtgnihbdcdefdgaaGreatDoorX28
import Derived.Test.YtgnihbdcdefdgaaGreatDoorX29
import Derived.SizedLaws
set_option maxRecDepth 100000
set_option linter.unusedSimpArgs false
set_option linter.unusedVariables false
open Go.ChangeShapes Go.WideShapes Go.ChangeAt Go.RowKit
open Go.Proofs.Tryz
namespace Go.Proofs.YtgnihbdcdefdgaaGreatDoor
theorem flatO_at:∀ (l:List Ot) (i:Nat) (h:i<l.length) (j:Nat),j<12→(flatO l)[i*12+j]? = (otC l[i])[j]?
 | x::l,0,_,j,hj=>by
   rw[flatO_cons,List.getElem?_append_left (by simp;omega)];simp
 | x::l,i+1,h,j,hj=>by
   rw[flatO_cons,List.getElem?_append_right (by simp;omega)];have ih:=flatO_at l i (by simpa using h) j hj;rw[show(i+1)*12+j-(otC x).length=i*12+j by simp;omega];simpa using ih
structure Lw (w:World) (ea:Option Addr) (en ec:Nat) (ga:Option Addr) (gn gc:Nat) (ma:Option Addr) (mn mc:Nat) (la:Option Addr) (live:List Bool) (lc:Nat) (s:Mt.Sn) (P:Nat→List Fp) (G:List G3) (M:Ms) (p:Tp) (f:Nat) (S:Nat→Prop) (tb mb:Nat) (L:List Gp.Gr) (MB:Nat→Prop) (lo vb:Nat) (Q:Mq) (X:World):Prop where
 bel:Below w.heap.size w X
 c0:X.cell? ⟨w.heap.size,0,none⟩=some (.slice ea en ec)
 c1:X.cell? ⟨w.heap.size,1,none⟩=some (.slice ga gn gc)
 c2:X.cell? ⟨w.heap.size,2,none⟩=some (.slice ma mn mc)
 c3:X.cell? ⟨w.heap.size,3,none⟩=some (.slice la live.length lc)
 sb:Sb X (w.heap.size+1) s
 pc:X.rangeAt vb 0 (ptC p).toList
 ev:live.length≤1000→Ev lo lo X p f S 256 P tb mb 64 L live MB
 mo:Mo MB lo vb X p Q
 gg:L.map Gp.Gr.p=G
 ms:Mq.ms Q=M
 gr:∀ g∈G,Gp.rightE g=0
 pr:∀ u,∀ x∈P u,wrongE x=0
 l0:w.heap.size+2≤lo
 l1:lo≤vb
 l2:vb<X.heap.size
 lv:Gp.Ls X la live
 sd:∀ b,S b→w.heap.size+2≤b∧b≠tb∧b≠mb∧∀ g∈L,¬ Gp.InB g.a g.l b
 pa:p.la=la
theorem Lw.kpt {w:World} {ea:Option Addr} {en ec:Nat} {ga:Option Addr} {gn gc:Nat} {ma:Option Addr} {mn mc:Nat} {la:Option Addr} {live:List Bool} {lc:Nat} {s:Mt.Sn} {P:Nat→List Fp} {G:List G3} {M M':Ms} {p:Tp} {f:Nat} {S:Nat→Prop} {tb mb:Nat} {L:List Gp.Gr} {MB:Nat→Prop} {lo vb:Nat} {Q Q':Mq} {X Y:World}
 (h:Lw w ea en ec ga gn gc ma mn mc la live lc s P G M p f S tb mb L MB lo vb Q X) (k:Kpt MB X Y) (mo:Mo MB lo vb Y p Q') (hm:Mq.ms Q'=M') (hlv:∀ g o,la=some ⟨g,o,none⟩→live≠[]→g<w.heap.size):Lw w ea en ec ga gn gc ma mn mc la live lc s P G M' p f S tb mb L MB lo vb Q' Y:=by
 have hb:=h.mo.bd;have z:=k.size;have l0:=h.l0;have l1:=h.l1;have l2:=h.l2;have g:Below lo X Y:=k.below (by omega) (fun b hb'=>(hb b hb').1);have kb:∀ b,b<lo→Y.heap[b]? = X.heap[b]?:=fun b hl=>g.block b hl;have e:∀ o,Y.cell? ⟨w.heap.size,o,none⟩=X.cell? ⟨w.heap.size,o,none⟩:=fun o=>World.cell?_of_block (w:=X) (kb w.heap.size (by omega));refine⟨h.bel.trans (g.mono (by omega)),(e _).trans h.c0,(e _).trans h.c1,(e _).trans h.c2,(e _).trans h.c3,h.sb.block (kb _ (by omega)),range_block h.pc (k.block vb l2 (fun e=>by have:=(hb vb e).2;omega)),fun hl=>(h.ev hl).low g,mo,h.gg,hm,h.gr,h.pr,l0,l1,by omega,?_,h.sd,h.pa⟩;by_cases he:live=[]
 ·exact .inl he
 ·rcases h.lv with e|⟨g',o',ha,hg,hc⟩
  ·exact .inl e
  ·exact .inr ⟨g',o',ha,by omega,fun i hi=>(World.cell?_of_block (w:=X) (kb g' (by have:=hlv g' o' ha he;omega))).trans (hc i hi)⟩
theorem Lw.of {w V w1 X:World} {ea:Option Addr} {el:List Fe} {ec:Nat} {ga:Option Addr} {gl:List Gp.Gr} {gc:Nat} {ma:Option Addr} {ml:List (Int × Int)} {mc:Nat} {la:Option Addr} {live:List Bool} {lc:Nat} {s:Mt.Sn} {P:Nat→List Fp} {G:List G3} {M:Ms} {pick:Int} {p:Tp}
 (hV:(w.alloc (.cells (mdC ea el.length ec ga gl.length gc ma ml.length mc la live.length lc) 27)).alloc (.cells (Mt.snC s) 49)=V) (I:Mi V ea el ga gl ma ml la live) (h:PtR V w1 P G M la live.length lc pick p) (hP:∀ u,∀ x∈P u,wrongE x=0) (hX:w1.alloc (.cells (ptC p) 33)=X) (p0 : -9223372036854775808≤pick) (p1:pick≤9223372036854775807) :
 p.pick=pick∧∃ f S tb mb L MB lo Q,Lw w ea el.length ec ga gl.length gc ma ml.length mc la live lc s P G M p f S tb mb L MB lo w1.heap.size Q X:=by
 obtain⟨f,S,tb,mb,L,MB,lo,Q,hPt,hL,hQ,pla,pln,plc,ppk⟩:=h;refine⟨ppk,f,S,tb,mb,L,MB,lo,Q,?_⟩;have gV:Below w.heap.size w V:=by rw[← hV];go_grown
 have zV:V.heap.size=w.heap.size+2:=by rw[← hV];simp
 have gX:Below w1.heap.size w1 X:=by rw[← hX];go_grown
 have zX:X.heap.size=w1.heap.size+1:=by rw[← hX];simp
 have g1:Below V.heap.size V X:=btr hPt.bel gX (by have:=hPt.bel.size;omega);have hlo:=hPt.lo;have hc:V.rangeAt w.heap.size 0 (mdC ea el.length ec ga gl.length gc ma ml.length mc la live.length lc).toList:=by
  rw[← hV];exact range_block (range_new w _ _) (heap_alloc_old _ _ (by simp))
 have ec':∀ o v,(mdC ea el.length ec ga gl.length gc ma ml.length mc la live.length lc).toList[o]? = some v→X.cell? ⟨w.heap.size,o,none⟩=some v:=fun o v hv=>by
  rw[World.cell?_of_block (w:=V) (g1.block w.heap.size (by omega))];have:=hc o v hv;rwa [Nat.zero_add]at this
 have sV:Sb V (w.heap.size+1) s:=by
  have h:=Sb.new (w.alloc (.cells (mdC ea el.length ec ga gl.length gc ma ml.length mc la live.length lc) 27)) s;have e:(w.alloc (.cells (mdC ea el.length ec ga gl.length gc ma ml.length mc la live.length lc) 27)).heap.size=w.heap.size+1:=by simp
  rw[e]at h;rw[← hV];exact h
 have gXl:Below lo w1 X:=gX.mono hlo.2;refine⟨gV.trans (g1.mono gV.size),ec' 0 _ rfl,ec' 1 _ rfl,ec' 2 _ rfl,ec' 3 _ rfl,sV.block (g1.block _ (by omega)),by rw[← hX];exact range_new w1 _ _,fun hl=>(hPt.ev hP (by rw[pla];exact I.l) pln hl (by rw[ppk];exact p0) (by rw[ppk];exact p1)).low gXl,hPt.mo.low gX,hL,hQ,?_,hP,by omega,hlo.2,by omega,I.l.below g1,fun b hb=>⟨by have:=(hPt.fb b hb).1;omega,hPt.sd b hb⟩,pla⟩;intro g hg;rw[← hL]at hg;obtain⟨x,hx,rfl⟩:=List.mem_map.1 hg;exact(hPt.tbl.grp x hx).ok
structure Rk (w wr:World) (a:Option Addr) (la:Option Addr) (live:List Bool) (lc:Nat) (s:Mt.Sn) (k:Nat) (g lb lf m:Nat):Prop where
 ha:a=some ⟨g,0,none⟩
 hl:la=some ⟨lb,lf,none⟩
 m1:(1:Int)≤(m:Int)
 m2:(m:Int)<(live.length:Int)
 cp:wr.cell? ⟨g,k*12,none⟩=some (.int .i64 (m:Int))
 cd:wr.cell? ⟨g,k*12+1+10,none⟩=some (.string s.data)
 cd':wr.cell? ⟨g,k*12+11,none⟩=some (.string s.data)
 ct':wr.cell? ⟨g,k*12+4,none⟩=some (.int .i64 s.ty)
 ct:wr.cell? ⟨g,k*12+1+3,none⟩=some (.int .i64 s.ty)
 cl:wr.cell? ⟨lb,lf+m,none⟩=some (.bool true)
 c3:wr.cell? ⟨w.heap.size,3,none⟩=some (.slice la live.length lc)
 s3:wr.cell? ⟨w.heap.size+1,5,none⟩=some (.int .i64 s.ty)
 s10:wr.cell? ⟨w.heap.size+1,12,none⟩=some (.string s.data)
theorem Rk.of {w X wr:World} {ea:Option Addr} {en ec:Nat} {ga:Option Addr} {gn gc:Nat} {ma:Option Addr} {mn mc:Nat} {la:Option Addr} {live:List Bool} {lc:Nat} {s:Mt.Sn} {P:Nat→List Fp} {G:List G3} {M:Ms} {p:Tp} {f:Nat} {S:Nat→Prop} {tb mb:Nat} {L:List Gp.Gr} {MB:Nat→Prop} {lo vb:Nat} {Q:Mq}
 (h:Lw w ea en ec ga gn gc ma mn mc la live lc s P G M p f S tb mb L MB lo vb Q X) {base:Nat} {a:Option Addr} {c:Nat} {O:List Ot} (hO:OwnO base X (.slice a O.length c) O) (ok:OkO live s.data s.ty O) (g:Below X.heap.size X wr) (k:Nat) (hk:k<O.length):∃ gb lb lf m,Rk w wr a la live lc s k gb lb lf m:=by
 obtain⟨gb,ha,hg⟩:∃ gb,a=some ⟨gb,0,none⟩∧gb<X.heap.size:=by
  rcases hO.2 with⟨_,h'⟩|⟨g',cap,cur,h',hb,_⟩
  ·omega
  ·cases h';exact⟨g',rfl,(hO.lt g' rfl).2⟩
 subst ha;obtain⟨h1,h2,h3⟩:=ok _ (List.getElem_mem hk);have hp:(1:Int)≤O[k].1∧O[k].1<(live.length:Int)∧live.getD O[k].1.toNat false=true:=by
  unfold portB at h1;simpa using h1
 obtain⟨m,hm⟩:∃ m:Nat,O[k].1=(m:Int):=⟨O[k].1.toNat,by omega⟩
 have hml:m<live.length:=by omega
 have hlm:live[m]=true:=by
  have e:=hp.2.2;rw[hm]at e;simpa [List.getD_eq_getElem?_getD,List.getElem?_eq_getElem hml]using e
 obtain⟨lb,lf,hla,hlb,hcl⟩:∃ lb lf,la=some ⟨lb,lf,none⟩∧lb<X.heap.size∧∀ i (h:i<live.length),X.cell? ⟨lb,lf+i,none⟩=some (.bool live[i]):=by
  rcases h.lv with e|h
  ·rw[e]at hml;cases hml
  ·exact h
 have hc:∀ j,j<12→X.cell? ⟨gb,k*12+j,none⟩=(otC O[k])[j]?:=fun j hj=>by
  rw[hO.cellAt (k*12+j) (by omega)];exact flatO_at O k hk j hj
 have l0:=h.l0;have l1:=h.l1;have l2:=h.l2;have gc':∀ o,wr.cell? ⟨gb,o,none⟩=X.cell? ⟨gb,o,none⟩:=fun o=>g.cell (p:=⟨gb,o,none⟩) hg;refine⟨gb,lb,lf,m,rfl,hla,by omega,by omega,?_,?_,?_,?_,?_,?_,?_,?_,?_⟩
 ·rw[gc'];have:=hc 0 (by omega);rw[Nat.add_zero]at this;rw[this,← hm];rfl
 ·rw[gc',show k*12+1+10=k*12+11 by omega,hc 11 (by omega),← h2];rfl
 ·rw[gc',hc 11 (by omega),← h2];rfl
 ·rw[gc',hc 4 (by omega),← h3];rfl
 ·rw[gc',show k*12+1+3=k*12+4 by omega,hc 4 (by omega),← h3];rfl
 ·rw[g.cell (p:=⟨lb,lf+m,none⟩) hlb,hcl m hml,hlm]
 ·rw[g.cell (p:=⟨w.heap.size,3,none⟩) (by show w.heap.size<X.heap.size;omega)];exact h.c3
 ·rw[g.cell (p:=⟨w.heap.size+1,5,none⟩) (by show w.heap.size+1<X.heap.size;omega)];exact h.sb.at 5 _ rfl
 ·rw[g.cell (p:=⟨w.heap.size+1,12,none⟩) (by show w.heap.size+1<X.heap.size;omega)];exact h.sb.at 12 _ rfl
theorem sn_in {H:Type} {enc:TypeId × Value→H} {W:World} {base:Nat} {sp:Nat→Bool} {held:Bool} {c0 c1 c2 c3 c4 c5 c6 c7 c8 c9 c10 c11 c12:Value} {fuel:Nat} {x:DataW H × List MemPlace} (hf:DataW.trod enc prog W base sp held fuel 49 [c0,c1,c2,c3,c4,c5,c6,c7,c8,c9,c10,c11,c12]=some x) :
 ∃ s:Mt.Sn,[c0,c1,c2,c3,c4,c5,c6,c7,c8,c9,c10,c11,c12]=(Mt.snC s).toList∧Mt.Wf s∧Fr.Wf s.pk∧s.data.size≤maxLen:=by
 obtain⟨xs,m,_,_,_,hlen,hfs⟩:=DataW.trod_struct underlying49 hf;match xs,hlen with
 | [y0,y1,yp],_ =>
   have tp:DataW.trod enc prog W base sp held m 47 [c2,c3,c4,c5,c6,c7,c8,c9,c10,c11,c12]=some yp:=by simpa [Value.cells,e25]using hfs 2 _ rfl
   obtain⟨zs,n,_,_,_,hlen2,hgs⟩:=DataW.trod_struct underlying47 tp;match zs,hlen2 with
   | [y2,y3,y4,y5,y6,y7,y8,y9,y10,y11,y12],_ =>
     obtain⟨n0,q0,_,w0⟩:=DataW.trod_int underlying3 (show DataW.trod enc prog W base sp held m 3 [c0]=some y0 by simpa [Value.cells,e3]using hfs 0 _ rfl);obtain⟨n1,q1,_,w1⟩:=DataW.trod_int underlying44 (show DataW.trod enc prog W base sp held m 44 [c1]=some y1 by simpa [Value.cells,e22]using hfs 1 _ rfl);obtain⟨n2,q2,_,w2⟩:=DataW.trod_int underlying44 (show DataW.trod enc prog W base sp held n 44 [c2]=some y2 by simpa [Value.cells,e22]using hgs 0 _ rfl);obtain⟨n3,q3,_,w3⟩:=DataW.trod_int underlying44 (show DataW.trod enc prog W base sp held n 44 [c3]=some y3 by simpa [Value.cells,e22]using hgs 1 _ rfl);obtain⟨n4,q4,_,w4⟩:=DataW.trod_int underlying3 (show DataW.trod enc prog W base sp held n 3 [c4]=some y4 by simpa [Value.cells,e3]using hgs 2 _ rfl);obtain⟨n5,q5,_,w5⟩:=DataW.trod_int underlying3 (show DataW.trod enc prog W base sp held n 3 [c5]=some y5 by simpa [Value.cells,e3]using hgs 3 _ rfl);obtain⟨n6,q6,_,w6⟩:=DataW.trod_int underlying45 (show DataW.trod enc prog W base sp held n 45 [c6]=some y6 by simpa [Value.cells,e23]using hgs 4 _ rfl);obtain⟨n7,q7,_,w7⟩:=DataW.trod_int underlying45 (show DataW.trod enc prog W base sp held n 45 [c7]=some y7 by simpa [Value.cells,e23]using hgs 5 _ rfl);obtain⟨n8,q8,_,w8⟩:=DataW.trod_int underlying3 (show DataW.trod enc prog W base sp held n 3 [c8]=some y8 by simpa [Value.cells,e3]using hgs 6 _ rfl);obtain⟨n9,q9,_,w9⟩:=DataW.trod_int underlying3 (show DataW.trod enc prog W base sp held n 3 [c9]=some y9 by simpa [Value.cells,e3]using hgs 7 _ rfl);obtain⟨n10,q10,_,w10⟩:=DataW.trod_int underlying3 (show DataW.trod enc prog W base sp held n 3 [c10]=some y10 by simpa [Value.cells,e3]using hgs 8 _ rfl);obtain⟨n11,q11,_,w11⟩:=DataW.trod_int underlying3 (show DataW.trod enc prog W base sp held n 3 [c11]=some y11 by simpa [Value.cells,e3]using hgs 9 _ rfl);obtain⟨n12,q12,_,w12⟩:=DataW.trod_string underlying9 (show DataW.trod enc prog W base sp held n 9 [c12]=some y12 by simpa [Value.cells,e9]using hgs 10 _ rfl);have a0:=wf_u64 w1;have a2:=wf_u64 w2;have a3:=wf_u64 w3;have a4:=wf_u32 w6;have a5:=wf_u32 w7;refine⟨⟨n0,n1,n2,n3,n4,n5,n6,n7,n8,n9,n10,n11,n12⟩,?_,⟨a0.1,a0.2,a4.1,a4.2,a5.1,a5.2⟩,⟨a2.1,a2.2,a3.1,a3.2,a4.1,a4.2,a5.1,a5.2⟩,w12⟩;rw[(List.cons.inj q0).1,(List.cons.inj q1).1,(List.cons.inj q2).1,(List.cons.inj q3).1,(List.cons.inj q4).1,(List.cons.inj q5).1,(List.cons.inj q6).1,(List.cons.inj q7).1,(List.cons.inj q8).1,(List.cons.inj q9).1,(List.cons.inj q10).1,(List.cons.inj q11).1,(List.cons.inj q12).1]
theorem open_sn2 {H:Type} {enc:TypeId × Value→H} {W:World} {r:Reach} {b0 base:Nat} {sp:Nat→Bool} {held:Bool} {v:Value} {d:DataW H} {ps:List MemPlace} (hv:Value.okWide prog W r b0 49 v) (h:DataW.Trod enc prog W base sp held 49 v d ps) :
 ∃ s:Mt.Sn,v=Mt.snV s∧Mt.Wf s∧Fr.Wf s.pk∧s.data.size≤maxLen:=by
 obtain⟨cs,rfl,hsz⟩:=okWide_struct underlying49 hv;obtain⟨c0,c1,c2,c3,c4,c5,c6,c7,c8,c9,c10,c11,c12,rfl⟩:=array13 (hsz.trans (by kernel_rfl));obtain⟨fuel,hf⟩:=h;obtain⟨s,e,h⟩:=sn_in hf;exact⟨s,congrArg (fun l=>Value.agg ⟨l⟩) e,h⟩
theorem array4 {α:Type} {cs:Array α} (h:cs.size=4):∃ c0 c1 c2 c3,cs=#[c0,c1,c2,c3]:=by
 obtain⟨l⟩:=cs;match l,h with
 | [c0,c1,c2,c3],_=>exact⟨c0,c1,c2,c3,rfl⟩
theorem slice_is {H:Type} {enc:TypeId × Value→H} {W:World} {t e:TypeId} {c:Value} {fuel:Nat} {x:DataW H × List MemPlace} (hu:prog.underlying t=some (.slice e)) (h:DataW.trod enc prog W 0 (fun _=>true) true fuel t [c]=some x):∃ a n k,c=.slice a n k:=by
 rcases Deep.open_slice hu h with⟨hcs,_⟩|⟨ad,ln,cp,m,n,D,Pl,hcs,_⟩
 ·exact⟨_,_,_,(List.cons.inj hcs).1⟩
 ·exact⟨_,_,_,(List.cons.inj hcs).1⟩
theorem cellsSl22:prog.cellsOf 22=1:=by kernel_rfl
theorem cellsSl23:prog.cellsOf 23=1:=by kernel_rfl
theorem cellsSl24:prog.cellsOf 24=1:=by kernel_rfl
theorem cellsSl25:prog.cellsOf 25=1:=by kernel_rfl
theorem open_made {H:Type} {enc:TypeId × Value→H} {W:World} {r:Reach} {b0:Nat} {v:Value} {d:DataW H} {ps:List MemPlace} (hv:Value.okWide prog W r b0 27 v) (h:DataW.Trod enc prog W 0 (fun _=>true) true 27 v d ps)
 (hlt:∀ p∈ps,p.block<W.heap.size) (hw:∀ n∈d.weights prog 27,n≤reachBytes) (hcd:Cd W) :
 ∃ ea el ec ga gl gc ma ml mc la live lc,v=mdV ea (List.length el) ec ga (List.length gl) gc ma (List.length ml) mc la (List.length live) lc∧Mi W ea el ga gl ma ml la live:=by
 obtain⟨cs,rfl,hsz⟩:=okWide_struct underlying27 hv;obtain⟨c0,c1,c2,c3,rfl⟩:=array4 (hsz.trans (by kernel_rfl));obtain⟨fuel,hf⟩:=h;obtain⟨xs,m,_,hx,_,hlen,hfs⟩:=DataW.trod_struct underlying27 hf;match xs,hlen with
 | [y0,y1,y2,y3],_ =>
   have t0:DataW.trod enc prog W 0 (fun _=>true) true m 22 [c0]=some y0:=by simpa [Value.cells,cellsSl22,cellsSl23,cellsSl24,cellsSl25]using hfs 0 _ rfl
   have t1:DataW.trod enc prog W 0 (fun _=>true) true m 23 [c1]=some y1:=by simpa [Value.cells,cellsSl22,cellsSl23,cellsSl24,cellsSl25]using hfs 1 _ rfl
   have t2:DataW.trod enc prog W 0 (fun _=>true) true m 24 [c2]=some y2:=by simpa [Value.cells,cellsSl22,cellsSl23,cellsSl24,cellsSl25]using hfs 2 _ rfl
   have t3:DataW.trod enc prog W 0 (fun _=>true) true m 25 [c3]=some y3:=by simpa [Value.cells,cellsSl22,cellsSl23,cellsSl24,cellsSl25]using hfs 3 _ rfl
   have hd:d=.agg [y0.1,y1.1,y2.1,y3.1]:=by have:=congrArg Prod.fst hx;simpa using this
   have hp:ps=y0.2++(y1.2++(y2.2++y3.2)):=by have:=congrArg Prod.snd hx;simpa using this
   subst hp;obtain⟨ea,en,ec,rfl⟩:=slice_is underlying22 t0;obtain⟨ga,gn,gc,rfl⟩:=slice_is underlying23 t1;obtain⟨ma,mn,mc,rfl⟩:=slice_is underlying24 t2;obtain⟨la,ln,lc,rfl⟩:=slice_is underlying25 t3;obtain⟨el,rfl,he,hei,hen,_⟩:=entries_of (fun p hp=>hlt p (by simp[hp])) t0;obtain⟨gl,rfl,hg,hgi,hgn⟩:=Gp.groups_of (fun p hp=>hlt p (by simp[hp])) t1;obtain⟨ml,rfl,hm,hmn,hmw⟩:=twos_of (fun p hp=>hlt p (by simp[hp])) t2;obtain⟨live,rfl,hl,hln⟩:=Gp.bools_of (fun p hp=>hlt p (by simp[hp])) t3;refine⟨ea,el,ec,ga,gl,gc,ma,ml,mc,la,live,lc,rfl,he,hei,hen,hg,hgi,hgn,hm,?_,hl,hln,hcd⟩;rcases hmw with⟨_,h0⟩|⟨els,sp,hy,hlen,hle⟩
   ·rw[h0];omega
   ·have hn:=hw ((els.length+sp.length)*prog.bytesOf 91) (by
     rw[hd,hy];simp[DataW.weights,DataW.weightsEach,underlying27,underlying24])
    have hb:prog.bytesOf 91=16:=by kernel_rfl
    rw[hb,hlen]at hn;have:=reachBytes_lt;have:ml.length*16≤mc*16:=Nat.mul_le_mul_right _ hle;omega
end Go.Proofs.YtgnihbdcdefdgaaGreatDoor

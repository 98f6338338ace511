import Derived.Test.YtgnihbdcdefdgaaGreatDoorXS1
import Derived.Test.YtgnihbdcdefdgaaGreatDoorX23
import Derived.Test.YtgnihbdcdefdgaaGreatDoorX30
import Derived.Test.YtgnihbdcdefdgaaGreatDoorX13
import Derived.Test.YtgnihbdcdefdgaaGreatDoorX02
set_option maxRecDepth 20000
set_option maxHeartbeats 8000000
set_option linter.unusedSimpArgs false
set_option linter.unusedVariables false
open Go.ChangeShapes Go.WideShapes Go.ChangeAt Go.RowKit
open Go.Proofs.Tryz
namespace Go.Proofs.YtgnihbdcdefdgaaGreatDoor
namespace Dc
structure Tr (w:World) (t:Nat) (p:Tp) (v:Value) (O:List Ot) (nb:Nat):Prop where
 c0:w.cell? ⟨t,0,none⟩=some (.pointer p.f)
 c1:w.cell? ⟨t,1,none⟩=some (.pointer p.g)
 c2:w.cell? ⟨t,2,none⟩=some (.slice p.ma p.mn p.mc)
 c3:w.cell? ⟨t,3,none⟩=some (.slice p.la p.ln p.lc)
 c4:w.cell? ⟨t,4,none⟩=some (.int .i64 p.pick)
 c5:w.cell? ⟨t,5,none⟩=some v
 c6:w.cell? ⟨t,6,none⟩=some (.int .i64 nb)
 fz:∀ o,w.frozen? ⟨t,o,none⟩=false
 lt:t<w.heap.size
 row:OwnR (t+1) w v O
 no:O.length≤64
 nn:nb≤256
theorem own_at {base:Nat} {w:World} {v:Value} {l:List Ot} (h:OwnR base w v l) {g:Nat} (hg:v.ownBlock=some g):base≤g∧g<w.heap.size:=h.lt g hg
theorem Tr.own {w:World} {t:Nat} {p:Tp} {v:Value} {O:List Ot} {nb:Nat} (h:Tr w t p v O nb) {g:Nat} (hg:v.ownBlock=some g):t<g∧g<w.heap.size:=own_at h.row hg
theorem eff_below {t:Nat} {p:Tp} {v v':Value} {O:List Ot} {nb:Nat} {w w':World} (h:Eff t v w v' w') (T:Tr w t p v O nb):Below t w w' :=
 h.kpt.below (Nat.le_of_lt T.lt) (fun k hk=>by
  rcases hk with rfl|hk
  ·exact Nat.le_refl _
  ·exact Nat.le_of_lt (T.own hk).1)
theorem own_block {base:Nat} {w w':World} {v:Value} {l:List Ot} (h:OwnR base w v l) (g:∀ b,v.ownBlock=some b→w'.heap[b]? = w.heap[b]?):OwnR base w' v l:=by
 refine⟨h.1,?_⟩;rcases h.2 with hn|⟨g',cap,cur,hv,hb,hgg,rest⟩
 ·exact .inl hn
 ·exact .inr ⟨g',cap,cur,hv,hb,(g g' (by rw[hv];rfl)).trans hgg,rest⟩
theorem Tr.stay {w w':World} {t:Nat} {p:Tp} {v:Value} {O:List Ot} {nb:Nat} (h:Tr w t p v O nb) (hz:w.heap.size≤w'.heap.size) (hb:w'.heap[t]? = w.heap[t]?) (hv:∀ b,v.ownBlock=some b→w'.heap[b]? = w.heap[b]?):Tr w' t p v O nb:=by
 have e:∀ o,w'.cell? ⟨t,o,none⟩=w.cell? ⟨t,o,none⟩:=fun o=>World.cell?_of_block (w:=w) hb;exact⟨(e _).trans h.c0,(e _).trans h.c1,(e _).trans h.c2,(e _).trans h.c3,(e _).trans h.c4,(e _).trans h.c5,(e _).trans h.c6,fun o=>(World.frozen?_of_block (w:=w) hb).trans (h.fz o),Nat.lt_of_lt_of_le h.lt hz,own_block h.row hv,h.no,h.nn⟩
theorem Tr.below {w w':World} {t:Nat} {p:Tp} {v:Value} {O:List Ot} {nb:Nat} (h:Tr w t p v O nb) (g:Below w.heap.size w w'):Tr w' t p v O nb :=
 h.stay g.size (g.block t h.lt) (fun b hb=>g.block b (h.own hb).2)
theorem Tr.form {w:World} {t:Nat} {p:Tp} {v:Value} {O:List Ot} {nb:Nat} (h:Tr w t p v O nb):∃ a cap,v=.slice a O.length cap:=by
 rcases h.row.2 with⟨rfl,h'⟩|⟨g,cap,cur,rfl,_⟩
 ·exact⟨none,0,by rw[h']⟩
 ·exact⟨_,cap,rfl⟩
theorem put_end {w V w8:World} {t:Nat} {p:Tp} {v v':Value} {O O':List Ot} {nb:Nat} (T:Tr V t p v O nb) (G:Below w.heap.size w V) (K:Kpt (fun b=>v.ownBlock=some b) V w8)
 (F:v'.ownBlock=v.ownBlock∨∀ g,v'.ownBlock=some g→V.heap.size≤g) (R:OwnR (t+1) w8 v' O') (hn:O'.length≤64) :
 Tr (w8.setCell ⟨t,5,none⟩ v') t p v' O' nb∧Eff t v w v' (w8.setCell ⟨t,5,none⟩ v'):=by
 have hb8:w8.heap[t]? = V.heap[t]?:=K.block t T.lt (fun e=>by have:=(T.own e).1;omega);have e:∀ o,w8.cell? ⟨t,o,none⟩=V.cell? ⟨t,o,none⟩:=fun o=>World.cell?_of_block (w:=V) hb8;have o5:∀ o,o≠5→(w8.setCell ⟨t,5,none⟩ v').cell? ⟨t,o,none⟩=V.cell? ⟨t,o,none⟩:=fun o ho=>(World.cell?_setCell_other _ _ _ _ (by simp[ho])).trans (e o);have hz:(w8.setCell ⟨t,5,none⟩ v').heap.size=w8.heap.size:=by simp[World.setCell]
 have fb:∀ b,b≠t→(w8.setCell ⟨t,5,none⟩ v').heap[b]? = w8.heap[b]?:=fun b hb=>Below.heap_setCell _ _ _ _ hb;refine⟨⟨(o5 _ (by decide)).trans T.c0,(o5 _ (by decide)).trans T.c1,(o5 _ (by decide)).trans T.c2,(o5 _ (by decide)).trans T.c3,(o5 _ (by decide)).trans T.c4,World.cell?_setCell_same _ _ _ ((e 5).trans T.c5),(o5 _ (by decide)).trans T.c6,fun o => ?_,by rw[hz];exact Nat.lt_of_lt_of_le T.lt K.size,own_block R (fun b hb=>fb b (by have:=(own_at R hb).1;omega)),hn,T.nn⟩,⟨⟨?_,?_,?_,?_,?_⟩,?_⟩⟩
 ·rw[World.frozen?_setCell];exact(World.frozen?_of_block (w:=V) hb8).trans (T.fz o)
 ·exact K.os.trans G.os
 ·exact K.tape.trans G.tape
 ·exact K.output.trans G.output
 ·rw[hz];exact Nat.le_trans G.size K.size
 ·intro b hb hs;rw[fb b (fun e=>hs (.inl e)),K.block b (Nat.lt_of_lt_of_le hb G.size) (fun e=>hs (.inr e))];exact G.block b hb
 ·exact F.imp id (fun h g hg=>Nat.le_trans G.size (h g hg))
theorem Tr.only {w V:World} {t:Nat} {p:Tp} {v:Value} {O:List Ot} {nb b:Nat} (h:Tr w t p v O nb) (o:Only b w V) (hb:b≠t) (hv:v.ownBlock≠some b):Tr V t p v O nb :=
 h.stay (by rw[o.size];exact Nat.le_refl _) (o.block t (fun e=>hb e.symm)) (fun k hk=>o.block k (fun e=>hv (by rw[← e];exact hk)))
end Dc
def dPort (s:Mt.Sn) (n:Int):Int:=if n=4294967288 then s.inp else n
def dleaveV (live:List Bool) (s:Mt.Sn) (n:Int) (O:List Ot):List Ot :=
 if n≠4294967288∧n=s.inp then O
 else if portB live (dPort s n)=true∧O.length<64 then O++[(dPort s n,s.pk)] else O
def dfoldV:List A→Mt.Sn × Int × Int→Mt.Sn × Int × Int
 | [],x=>x
 | a::l,x=>if a.1=2 then dfoldV l (x.1,IntKind.i64.wrap a.2.2,x.2.2) else if a.1=1 then dfoldV l (x.1,x.2.1,IntKind.i64.wrap a.2.2) else dfoldV l (Fd.changeV x.1 a,x.2.1,x.2.2)
def dsetV (live:List Bool) (thr:Mt.Sn→Int→St→St) (l:List A) (s:Mt.Sn) (σ:St):St :=
 if (dfoldV l (s,0,0)).2.1≠0 then thr (dfoldV l (s,0,0)).1 (dfoldV l (s,0,0)).2.1 σ
 else if (dfoldV l (s,0,0)).2.2≠0 then (dleaveV live (dfoldV l (s,0,0)).1 (dfoldV l (s,0,0)).2.2 σ.1,σ.2) else σ
def dbksV (dov:List A→St→St):List B3→St→St
 | [],σ=>σ
 | b::l,σ=>if 64≤σ.1.length∨256≤σ.2 then σ else dbksV dov l (dov (Sr.mergeV b.2.2) (σ.1,σ.2+1))
def dthrV (G:List G3) (live:List Bool) (pick:Int):Nat→Mt.Sn→Int→St→St
 | 0,_,_,σ=>σ
 | k+1,s,id,σ=>match G.find? (fun g=>decide (g.1=id))with
   | none=>σ
   | some g=>dbksV (fun l=>dsetV live (dthrV G live pick k) l s) (chooseV g.2.1 g.2.2 live pick) σ
def dactsV (live:List Bool) (thr:Mt.Sn→Int→St→St):List A→Mt.Sn→St→Mt.Sn × St
 | [],s,σ=>(s,σ)
 | a::l,s,σ=>if a.1=2 then dactsV live thr l s (thr s (IntKind.i64.wrap a.2.2) σ) else if a.1=1 then dactsV live thr l s (dleaveV live s (IntKind.i64.wrap a.2.2) σ.1,σ.2) else dactsV live thr l (Fd.changeV s a) σ
def dtabV (P:Nat→List Fp) (G:List G3) (live:List Bool) (pick:Int):Nat→Int→Mt.Sn→List A→St→Ms→St × Ms
 | 0,_,_,_,σ,M=>(σ,M)
 | k+1,from_,s,set,σ,M=>match lookP (tabOf P from_) s with
   | none=>(σ,M)
   | some x=>if (passV M x.met s.pk).1=false then (σ,(passV M x.met s.pk).2) else
     let r:=dactsV live (dthrV G live pick 8) x.la s σ
     let set2:=Sr.mergeV ((if x.clr=true then [] else set)++x.lw)
     let s2:Mt.Sn:={ r.1 with mt:=metaV r.1.mt x.mm x.mt }
     if from_<x.go then dtabV P G live pick k x.go s2 set2 r.2 (passV M x.met s.pk).2
     else (dsetV live (dthrV G live pick 8) set2 s2 r.2,(passV M x.met s.pk).2)
theorem wrap_back {n:Int} (h0:0≤n) (h1:n<18446744073709551616):IntKind.i64.wrap n=4294967288↔n=4294967288:=by
 rw[IntKind.wrap_i64];omega
theorem leave_d {live:List Bool} {s:Mt.Sn} {n:Int} {O:List Ot} (h0:0≤n) (h1:n<18446744073709551616):dleaveV live s (IntKind.i64.wrap n) O=leaveV live s n O:=by
 have h:=wrap_back h0 h1;unfold dleaveV leaveV dPort portV;simp only[h,ne_eq]
structure Re2 (σ τ:St):Prop where
 o:σ.1=τ.1
 l:σ.1.length≤64
 b:σ.2=τ.2∨σ.1.length=64
 m:τ.2≤256
theorem full_leave {live:List Bool} {s:Mt.Sn} {n:Int} {O:List Ot} (h:O.length=64):leaveV live s n O=O:=by
 unfold leaveV;split
 ·rfl
 ·rw[if_neg (by omega)]
abbrev Full (thr:Mt.Sn→Int→St→St):Prop:=∀ s id (σ:St),σ.1.length=64→(thr s id σ).1=σ.1
abbrev Cnt (thr:Mt.Sn→Int→St→St):Prop:=∀ s id (σ:St),σ.2≤256→(thr s id σ).2≤256
theorem full_do {live:List Bool} {thr:Mt.Sn→Int→St→St} (ht:Full thr):∀ (l:List A) (s:Mt.Sn) (σ:St),σ.1.length=64→(doV live thr l s σ).1=σ.1
 | [],_,_,_=>rfl
 | a::l,s,σ,h=>by
   unfold doV;split
   ·exact ht s _ σ h
   ·split
    ·rw[full_do ht l s _ (by rw[full_leave h];exact h),full_leave h]
    ·exact full_do ht l _ σ h
theorem cnt_do {live:List Bool} {thr:Mt.Sn→Int→St→St} (ht:Cnt thr):∀ (l:List A) (s:Mt.Sn) (σ:St),σ.2≤256→(doV live thr l s σ).2≤256
 | [],_,_,h=>h
 | a::l,s,σ,h=>by
   unfold doV;split
   ·exact ht s _ σ h
   ·split
    ·exact cnt_do ht l s _ h
    ·exact cnt_do ht l _ σ h
theorem full_bks {dov:List A→St→St} (hd:∀ l σ,σ.1.length=64→(dov l σ).1=σ.1):∀ (l:List B3) (σ:St),σ.1.length=64→(bksV dov l σ).1=σ.1
 | [],_,_=>rfl
 | b::l,σ,h=>by
   unfold bksV;split
   ·rfl
   ·have e:=hd (Sr.mergeV b.2.2) (σ.1,σ.2+1) h;rw[full_bks hd l _ (by rw[e];exact h),e]
theorem cnt_bks {dov:List A→St→St} (hd:∀ l (σ:St),σ.2≤256→(dov l σ).2≤256):∀ (l:List B3) (σ:St),σ.2≤256→(bksV dov l σ).2≤256
 | [],_,h=>h
 | b::l,σ,h=>by
   unfold bksV;split
   ·exact h
   ·exact cnt_bks hd l _ (hd _ _ (by simp only;omega))
theorem full_thr {G:List G3} {live:List Bool} {pick:Int}:∀ k,Full (thrV G live pick k)
 | 0,_,_,_,_=>rfl
 | k+1,s,id,σ,h=>by
   unfold thrV;split
   ·rfl
   ·exact full_bks (fun l σ h=>full_do (full_thr k) l s σ h) _ _ h
theorem cnt_thr {G:List G3} {live:List Bool} {pick:Int}:∀ k,Cnt (thrV G live pick k)
 | 0,_,_,_,h=>h
 | k+1,s,id,σ,h=>by
   unfold thrV;split
   ·exact h
   ·exact cnt_bks (fun l σ h=>cnt_do (cnt_thr k) l s σ h) _ _ h
abbrev Sim (d thr:Mt.Sn→Int→St→St):Prop:=∀ s (id:Int) (σ τ:St),0≤id→id<18446744073709551616→Re2 σ τ→Re2 (d s (IntKind.i64.wrap id) σ) (thr s id τ)
theorem Re2.leave {live:List Bool} {s:Mt.Sn} {n:Int} {σ τ:St} (h:Re2 σ τ) (h0:0≤n) (h1:n<18446744073709551616):Re2 (dleaveV live s (IntKind.i64.wrap n) σ.1,σ.2) (leaveV live s n τ.1,τ.2):=by
 refine⟨?_,?_,?_,h.m⟩
 ·show dleaveV _ _ _ _=_;rw[leave_d h0 h1,h.o]
 ·show(dleaveV _ _ _ _).length≤64;rw[leave_d h0 h1];exact leave_len h.l
 ·rcases h.b with e|e
  ·exact .inl e
  ·right;show(dleaveV _ _ _ _).length=64;rw[leave_d h0 h1,full_leave e];exact e
def Rt (a:A):Prop:=AW a∧(a.1=1∨a.1=2→1≤a.2.2∧a.2.2≤4294967295)
theorem rt_of {a:A} (h:rightB a=true):Rt a:=by
 refine⟨aw_right h,fun hk => ?_⟩;unfold rightB at h;rw[if_pos hk]at h;simp at h;exact h.2
theorem rt_all {l:List A} (h:allB l=true):∀ a∈l,Rt a:=fun a ha=>rt_of (List.all_eq_true.1 h a ha)
theorem wrap_small {n:Int} (h0:1≤n) (h1:n≤4294967295):IntKind.i64.wrap n≠0:=by rw[IntKind.wrap_i64];omega
theorem fold_outs:∀ (l:List A) (x:Mt.Sn × Int × Int),(∀ a∈l,a.1=1)→(dfoldV l x).1=x.1∧(dfoldV l x).2.1=x.2.1
 | [],_,_=>⟨rfl,rfl⟩
 | a::l,x,h=>by
   have ha:=h a (List.mem_cons_self ..);unfold dfoldV;rw[if_neg (by omega),if_pos ha];exact fold_outs l _ (fun b hb=>h b (List.mem_cons_of_mem _ hb))
theorem place_one {k:Int} (h:4<Sr.placeV k):k=1:=by
 unfold Sr.placeV at h;repeat' split at h
 all_goals omega
theorem place_two {a b:A} (ha:AW a) (hb:AW b) (h2:a.1=2) (h:Sr.kap a<Sr.kap b):b.1=1:=by
 have:=(Sr.kap_lt ha hb).1 h;rw[h2]at this;have e:Sr.placeV 2=4:=by decide
 rw[e]at this;rcases this with h|h
 ·exact place_one h
 ·omega
theorem place_none {a b:A} (ha:AW a) (hb:AW b) (h1:a.1=1) (h:Sr.kap a<Sr.kap b):False:=by
 have:=(Sr.kap_lt ha hb).1 h;rw[h1]at this;have e:Sr.placeV 1=5:=by decide
 rw[e]at this;have r:=Sr.place_range b.1;omega
theorem sim_set {live:List Bool} {d thr:Mt.Sn→Int→St→St} (hs:Sim d thr):∀ (l:List A) (s:Mt.Sn) (σ τ:St),l.Pairwise (fun x y=>Sr.kap x<Sr.kap y)→(∀ a∈l,Rt a)→Re2 σ τ→Re2 (dsetV live d l s σ) (doV live thr l s τ)
 | [],s,σ,τ,_,_,h=>h
 | a::l,s,σ,τ,hp,hr,h=>by
   have ha:=hr a (List.mem_cons_self ..);have hl:∀ b∈l,Rt b:=fun b hb=>hr b (List.mem_cons_of_mem _ hb);rw[List.pairwise_cons]at hp;by_cases h2:a.1=2
   ·have hv:=ha.2 (.inr h2);have h1:∀ b∈l,b.1=1:=fun b hb=>place_two ha.1 (hl b hb).1 h2 (hp.1 b hb);have e:dfoldV (a::l) (s,0,0)=dfoldV l (s,IntKind.i64.wrap a.2.2,0):=by rw[dfoldV,if_pos h2]
    obtain⟨f1,f2⟩:=fold_outs l (s,IntKind.i64.wrap a.2.2,0) h1;unfold dsetV doV;rw[e,f1,f2,if_pos (wrap_small hv.1 hv.2),if_pos h2];exact hs s a.2.2 σ τ ha.1.v0 ha.1.v1 h
   ·by_cases h1:a.1=1
    ·have hv:=ha.2 (.inl h1);have hn:l=[]:=by
      cases l with
      | nil=>rfl
      | cons b r=>exact(place_none ha.1 (hl b (List.mem_cons_self ..)).1 h1 (hp.1 b (List.mem_cons_self ..))).elim
     subst hn;have e:dfoldV [a] (s,0,0)=(s,0,IntKind.i64.wrap a.2.2):=by rw[dfoldV,if_neg h2,if_pos h1];rfl
     unfold dsetV doV;rw[e,if_neg (by simp),if_pos (wrap_small hv.1 hv.2),if_neg h2,if_pos h1];exact h.leave ha.1.v0 ha.1.v1
    ·have e:dfoldV (a::l) (s,0,0)=dfoldV l (Fd.changeV s a,0,0):=by rw[dfoldV,if_neg h2,if_neg h1]
     have ih:=sim_set (live:=live) hs l (Fd.changeV s a) σ τ hp.2 hl h;unfold dsetV at ih ⊢;unfold doV;rw[e,if_neg h2,if_neg h1];exact ih
theorem sim_bks {d dov:List A→St→St} (hs:∀ l σ τ,l.Pairwise (fun x y=>Sr.kap x<Sr.kap y)→(∀ a∈l,Rt a)→Re2 σ τ→Re2 (d l σ) (dov l τ)) (hf:∀ l σ,σ.1.length=64→(dov l σ).1=σ.1) (hc:∀ l (σ:St),σ.2≤256→(dov l σ).2≤256) :
 ∀ (l:List B3) (σ τ:St),(∀ b∈l,∀ a∈b.2.2,Rt a)→Re2 σ τ→Re2 (dbksV d l σ) (bksV dov l τ)
 | [],σ,τ,_,h=>h
 | b::l,σ,τ,hr,h=>by
   by_cases h64:σ.1.length=64
   ·have e:dbksV d (b::l) σ=σ:=by rw[dbksV,if_pos (.inl (by omega))]
    have ht:τ.1.length=64:=by rw[← h.o];exact h64
    rw[e];exact⟨by rw[full_bks hf _ _ ht];exact h.o,h.l,.inr h64,cnt_bks hc _ _ h.m⟩
   ·have eb:σ.2=τ.2:=by
     rcases h.b with e|e
     ·exact e
     ·exact absurd e h64
    have hl:=h.l;have hm:=h.m;by_cases h256:τ.2=256
    ·unfold dbksV bksV;rw[if_pos (.inr (by omega)),if_pos h256];exact h
    ·unfold dbksV bksV;rw[if_neg (by omega),if_neg h256];refine sim_bks hs hf hc l _ _ (fun x hx=>hr x (List.mem_cons_of_mem _ hx)) ?_;refine hs _ _ _ (Sr.merge_strict _) (fun a ha=>hr b (List.mem_cons_self ..) a (Sr.mem_merge ha).1) ⟨h.o,h.l,.inl (by simp only;omega),by simp only;omega⟩
theorem sim_thr {G:List G3} {live:List Bool} {pick:Int} (hG:∀ g∈G,Gp.rightE g=0):∀ k,Sim (dthrV G live pick k) (thrV G live pick k)
 | 0,_,_,_,_,_,_,h=>h
 | k+1,s,id,σ,τ,h0,h1,h=>by
   unfold dthrV thrV;cases hg:List.find? (fun g=>decide (g.1=IntKind.i64.wrap id)) G with
   | none=>exact h
   | some g =>
     have hm:g∈G:=List.mem_of_find?_eq_some hg;exact sim_bks (fun l σ τ hp hr h=>sim_set (live:=live) (sim_thr hG k) l s σ τ hp hr h) (fun l σ h=>full_do (full_thr k) l s σ h) (fun l σ h=>cnt_do (cnt_thr k) l s σ h) _ σ τ (fun b hb=>rt_all (right_bks (hG g hm) b (chooseV_mem hb)).2.2) h
theorem sim_acts {live:List Bool} {d thr:Mt.Sn→Int→St→St} (hs:Sim d thr):∀ (l:List A) (s:Mt.Sn) (σ τ:St),AWs l→Re2 σ τ→(dactsV live d l s σ).1=(appV live thr l s τ).1∧Re2 (dactsV live d l s σ).2 (appV live thr l s τ).2
 | [],s,σ,τ,_,h=>⟨rfl,h⟩
 | a::l,s,σ,τ,hl,h=>by
   have ha:=hl a (List.mem_cons_self ..);have hr:AWs l:=fun x hx=>hl x (List.mem_cons_of_mem _ hx);unfold dactsV appV;by_cases h2:a.1=2
   ·rw[if_pos h2,if_neg (by omega),if_pos h2];exact sim_acts hs l s _ _ hr (hs s a.2.2 σ τ ha.v0 ha.v1 h)
   ·by_cases h1:a.1=1
    ·rw[if_neg h2,if_pos h1,if_pos h1];exact sim_acts hs l s _ _ hr (h.leave ha.v0 ha.v1)
    ·rw[if_neg h2,if_neg h1,if_neg h1,if_neg h2];exact sim_acts hs l _ σ τ hr h
theorem Re2.nil:Re2 (([],0):St) ([],0):=⟨rfl,by simp,.inl rfl,by simp⟩
theorem act_d {G:List G3} {live:List Bool} {pick:Int} (hG:∀ g∈G,Gp.rightE g=0) (l:List A) (s:Mt.Sn) (hl:AWs l):((dactsV live (dthrV G live pick 8) l s ([],0)).2.1,(dactsV live (dthrV G live pick 8) l s ([],0)).1)=actV G live pick l s:=by
 obtain⟨h1,h2⟩:=sim_acts (live:=live) (sim_thr (live:=live) (pick:=pick) hG 8) l s ([],0) ([],0) hl Re2.nil;unfold actV;simp only[h1,h2.o]
theorem wrong_rt {x:Fp} (h:wrongE x=0):∀ a∈x.lw,Rt a:=by
 unfold wrongE at h;split at h
 ·contradiction
 ·rename_i h1;have h2:rightX x.sp=0:=by simpa using h1
  have e32:∀ l:List A,encodeE l=0→∀ a∈l,Rt a:=fun l hl=>by
   unfold encodeE at hl;split at hl
   ·rename_i hb;exact rt_all hb
   ·omega
  unfold rightX at h2;split at h2
  ·omega
  ·split at h2
   ·contradiction
   ·rename_i h5;split at h2
    ·contradiction
    ·rename_i h6;exact e32 _ (by simpa [Fp.sp]using h6)
theorem sim_tab {P:Nat→List Fp} {G:List G3} {live:List Bool} {pick:Int} (hG:∀ g∈G,Gp.rightE g=0) (hP:∀ u,∀ x∈P u,wrongE x=0):∀ (k:Nat) (fr:Int) (s:Mt.Sn) (set:List A) (σ τ:St) (M:Ms),(∀ a∈set,Rt a)→Re2 σ τ→Re2 (dtabV P G live pick k fr s set σ M).1 (tabV P G live pick k fr s set τ M).1∧(dtabV P G live pick k fr s set σ M).2=(tabV P G live pick k fr s set τ M).2
 | 0,_,_,_,_,_,_,_,h=>⟨h,rfl⟩
 | k+1,fr,s,set,σ,τ,M,hset,h=>by
   unfold dtabV tabV;cases hx:lookP (tabOf P fr) s with
   | none=>exact⟨h,rfl⟩
   | some x =>
     have hm:=List.mem_of_find?_eq_some hx;have hw:wrongE x=0:=by
      unfold tabOf at hm;split at hm
      ·exact hP _ x hm
      ·cases hm
     obtain⟨h1,h2⟩:=wrong_acts hw;obtain⟨a1,a2⟩:=sim_acts (live:=live) (sim_thr (live:=live) (pick:=pick) hG 8) x.la s σ τ h1 h;have hmm:∀ a∈Sr.mergeV ((if x.clr=true then [] else set)++x.lw),Rt a:=fun z hz=>by
      rcases List.mem_append.1 (Sr.mem_merge hz).1 with hz|hz
      ·split at hz
       ·cases hz
       ·exact hset z hz
      ·exact wrong_rt hw z hz
     simp only;split
     ·exact⟨h,rfl⟩
     ·rw[a1];split
      ·exact sim_tab hG hP k _ _ _ _ _ _ hmm a2
      ·exact⟨sim_set (sim_thr hG 8) _ _ _ _ (Sr.merge_strict _) hmm a2,rfl⟩
theorem run_d {P:Nat→List Fp} {G:List G3} {live:List Bool} {pick:Int} (hG:∀ g∈G,Gp.rightE g=0) (hP:∀ u,∀ x∈P u,wrongE x=0) (s:Mt.Sn) (M:Ms):((dtabV P G live pick 8 0 { s with mt:=0 } [] ([],0) M).1.1,(dtabV P G live pick 8 0 { s with mt:=0 } [] ([],0) M).2)=runV P G live pick s M:=by
 obtain⟨h1,h2⟩:=sim_tab (live:=live) (pick:=pick) hG hP 8 0 { s with mt:=0 } [] ([],0) ([],0) M (fun _ h=>by cases h) Re2.nil;unfold runV;simp only[h1.o,h2]
namespace Dc
theorem leave_put (t:Nat) (p:Tp) (a:Option Addr) (cap:Nat) (O:List Ot) (nb:Nat) (live:List Bool) (s:Mt.Sn) (n:Int) (k:Nat) (w:World) (T:Tr w t p (.slice a O.length cap) O nb) (hl:p.ln=live.length) (L:Gp.Ls w p.la live) (hn:live.length≤1000)
 (hw2:((n==4294967288)=true∧s.inp=(k:Int))∨(n=(k:Int)∧((k:Int)==4294967288)=false∧((k:Int)==s.inp)=false)) (h1:1≤k) (hk:k<live.length) (hb:live[k]=true) (ho:O.length<64) :
 Calls prog 77 #[.pointer (some ⟨t,0,none⟩),Mt.snV s,.int .i64 n] w fun e w'=>e=.returned (.tuple #[])∧∃ v',Tr w' t p v' (O++[((k:Int),s.pk)]) nb∧Eff t (.slice a O.length cap) w v' w':=by
 obtain⟨V,hV⟩:∃ V,Mt.rx w s=V:=⟨_,rfl⟩
 have g0:Below w.heap.size w V:=by rw[← hV];go_grown
 have T0:=T.below g0;have c5:=T.c5;have c3:=T.c3;rw[hl]at c3;obtain⟨lb,lf,hla,hlb,hcl⟩:∃ g o,p.la=some ⟨g,o,none⟩∧g<w.heap.size∧∀ i (h:i<live.length),w.cell? ⟨g,o+i,none⟩=some (.bool live[i]):=by
  rcases L with e|h
  ·rw[e]at hk;cases hk
  ·exact h
 have cl:w.cell? ⟨lb,lf+k,none⟩=some (.bool true):=by rw[hcl k hk,hb]
 rw[hla]at c3;have B:=Mt.Bx.newr w s;have HzV:Hid (V.heap.size=w.heap.size+1):=(show _=_ by rw[← hV];simp)
 rw[hV]at B;have HBx:Hid (Mt.Bx V w.heap.size s):=B;have HT:Hid (Tr V t p (.slice a O.length cap) O nb):=T0;have HG:Hid (Below w.heap.size w V):=g0;have HV:Hid (w.alloc (.cells (Mt.snC s) 56)=V):=hV;have htl:=T.lt;have ho' : ¬ 64≤(O.length:Int):=by omega
 have ho2 : ¬ 64≤O.length:=by omega
 have htV:t<V.heap.size:=by have:=HzV.out;omega
 have hwV:w.heap.size<V.heap.size:=by have:=HzV.out;omega
 have hk1 : ¬ (k:Int)<1:=by omega
 have hk1':k≠0:=by omega
 have hk2 : ¬ (live.length:Int)≤(k:Int):=by omega
 have hk3 : ¬ live.length≤k:=by omega
 obtain⟨i0,hi0,hz0,hz1,hz2⟩:=info_parts infoRt;clear T g0 T0 hb L hcl hla B;rcases hw2 with⟨hq,hqq⟩|⟨hqq,hq,hi⟩
 ·have HVk:Hid (w.alloc (.cells #[.int .i64 (k:Int),.int .u64 s.mt,.int .u64 s.to,.int .u64 s.fr,.int .i64 s.vl,.int .i64 s.ty,.int .u32 s.src,.int .u32 s.dst,.int .i64 s.life,.int .i64 s.pro,.int .i64 s.sp,.int .i64 s.dp,.string s.data] 56)=V):=(show _=_ by rw[← hqq];exact hV)
  clear hV;go_enter func77,ntmps77;go_wp2_with fail;rw[HVk.out];clear c5 c3 cl;have c5:=HT.out.c5;have fz:=HT.out.fz 5;obtain⟨b0,b1,b2,b3,b4,b5,b6,b7,b8,b9,b10,b11,b12⟩:=HBx.out;rw[hqq]at b0;clear hqq
  go_region_law (
   refine step_append_own rfl (.tmp 49) (.tmp 54) 51 rfl (t+1) 102 i0 (.agg #[.int .i64 0,.int .u64 0,.int .u64 0,.int .i64 0,.int .i64 0,.int .u32 0,.int .u32 0,.int .i64 0,.int .i64 0,.int .i64 0,.int .i64 0,.string ⟨#[]⟩]) 12 96 underlying51 hi0 hz0 hz1 hz2 rfl (by decide) (.slice a O.length cap) O.length (flatO O) rfl (HT.out.row.alloc _) ⟨V.heap.size,0,none⟩ 1 1 (otC ((k:Int),s.pk)) rfl rfl (cells_newL _ _ _) (otC_one _) (by unfold maxLen;omega) (by omega) (by have:=HzV.out;simp;omega) ?_;intro v' w8 hown' hgrow hfr;obtain⟨a8,cap8,rfl⟩:=own_sl hown';have HK:Hid (Kpt (fun b=>(Value.slice a O.length cap).ownBlock=some b) V w8):=grow_kpt (by go_grown) hgrow;have HF:Hid ((Value.slice a8 (O.length+1) cap8).ownBlock=(Value.slice a O.length cap).ownBlock∨∀ g,(Value.slice a8 (O.length+1) cap8).ownBlock=some g→V.heap.size≤g):=hfr.imp id (fun e g hg=>by rw[hg]at e;cases e;simp);have HO:Hid (OwnR (t+1) w8 (.slice a8 (O.length+1) cap8) (O++[((k:Int),s.pk)])):=(show World.ownsRow _ _ _ _ _ _ _ by rw[flatO_append,List.length_append];exact hown')
   clear hown';clear hgrow hfr;have hb8:w8.heap[t]? = V.heap[t]?:=HK.out.block t htV (fun e=>by have:=(HT.out.own e).1;omega);have d5:w8.cell? ⟨t,5,none⟩=some (.slice a O.length cap):=(World.cell?_of_block (w:=V) hb8).trans c5;have f5:w8.frozen? ⟨t,5,none⟩=false:=(World.frozen?_of_block (w:=V) hb8).trans fz;clear hb8)
  all_goals
   go_wp2;go_end0;exact⟨rfl,_,put_end HT.out HG.out HK.out HF.out HO.out (by simp;omega)⟩
 ·subst hqq;clear hV;go_enter func77,ntmps77;go_wp2_with fail;rw[HV.out];clear c5 c3 cl;have c5:=HT.out.c5;have fz:=HT.out.fz 5;obtain⟨b0,b1,b2,b3,b4,b5,b6,b7,b8,b9,b10,b11,b12⟩:=HBx.out
  go_region_law (
   refine step_append_own rfl (.tmp 49) (.tmp 54) 51 rfl (t+1) 102 i0 (.agg #[.int .i64 0,.int .u64 0,.int .u64 0,.int .i64 0,.int .i64 0,.int .u32 0,.int .u32 0,.int .i64 0,.int .i64 0,.int .i64 0,.int .i64 0,.string ⟨#[]⟩]) 12 96 underlying51 hi0 hz0 hz1 hz2 rfl (by decide) (.slice a O.length cap) O.length (flatO O) rfl (HT.out.row.alloc _) ⟨V.heap.size,0,none⟩ 1 1 (otC ((k:Int),s.pk)) rfl rfl (cells_newL _ _ _) (otC_one _) (by unfold maxLen;omega) (by omega) (by have:=HzV.out;simp;omega) ?_;intro v' w8 hown' hgrow hfr;obtain⟨a8,cap8,rfl⟩:=own_sl hown';have HK:Hid (Kpt (fun b=>(Value.slice a O.length cap).ownBlock=some b) V w8):=grow_kpt (by go_grown) hgrow;have HF:Hid ((Value.slice a8 (O.length+1) cap8).ownBlock=(Value.slice a O.length cap).ownBlock∨∀ g,(Value.slice a8 (O.length+1) cap8).ownBlock=some g→V.heap.size≤g):=hfr.imp id (fun e g hg=>by rw[hg]at e;cases e;simp);have HO:Hid (OwnR (t+1) w8 (.slice a8 (O.length+1) cap8) (O++[((k:Int),s.pk)])):=(show World.ownsRow _ _ _ _ _ _ _ by rw[flatO_append,List.length_append];exact hown')
   clear hown';clear hgrow hfr;have hb8:w8.heap[t]? = V.heap[t]?:=HK.out.block t htV (fun e=>by have:=(HT.out.own e).1;omega);have d5:w8.cell? ⟨t,5,none⟩=some (.slice a O.length cap):=(World.cell?_of_block (w:=V) hb8).trans c5;have f5:w8.frozen? ⟨t,5,none⟩=false:=(World.frozen?_of_block (w:=V) hb8).trans fz;clear hb8)
  all_goals
   go_wp2;go_end0;exact⟨rfl,_,put_end HT.out HG.out HK.out HF.out HO.out (by simp;omega)⟩
theorem leave_no (t:Nat) (p:Tp) (a:Option Addr) (cap:Nat) (O:List Ot) (nb:Nat) (live:List Bool) (s:Mt.Sn) (n q:Int) (w:World) (T:Tr w t p (.slice a O.length cap) O nb) (hl:p.ln=live.length) (L:Gp.Ls w p.la live) (hn:live.length≤1000)
 (h:((n==4294967288)=false∧(n==s.inp)=true)∨((((n==4294967288)=true∧s.inp=q)∨(n=q∧(q==4294967288)=false∧(q==s.inp)=false))∧(portB live q=false∨64≤O.length))) :
 Calls prog 77 #[.pointer (some ⟨t,0,none⟩),Mt.snV s,.int .i64 n] w fun e w'=>e=.returned (.tuple #[])∧Below w.heap.size w w':=by
 obtain⟨V,hV⟩:∃ V,Mt.rx w s=V:=⟨_,rfl⟩
 have g0:Below w.heap.size w V:=by rw[← hV];go_grown
 have c5:=T.c5;have c3:=T.c3;rw[hl]at c3;have HG:Hid (∀ X,X=w.alloc (.cells (Mt.snC s) 56)→Below w.heap.size w X):=(show ∀ X,_ from fun X e=>by rw[e];go_grown)
 have htl:=T.lt;rcases h with⟨hq,hi⟩|⟨h1,h2⟩
 ·clear T g0 hV L c5 c3;go_enter func77,ntmps77;go_wp2_with fail;(try simp only[Exit.inBlock,Exit.then])
  refine bodyPost_ret (results_none rfl _ _ _) rfl ?_;exact⟨rfl,by go_grown⟩
 ·have go:∀ (_:q<1∨(1≤q∧(live.length:Int)≤q)∨(∃ k:Nat,q=(k:Int)∧1≤k∧k<live.length∧∃ lb lf B,p.la=some ⟨lb,lf,none⟩∧w.cell? ⟨lb,lf+k,none⟩=some (.bool B)∧lb<w.heap.size∧(B=false∨B=true∧64≤O.length))),Calls prog 77 #[.pointer (some ⟨t,0,none⟩),Mt.snV s,.int .i64 n] w fun e w'=>e=.returned (.tuple #[])∧Below w.heap.size w w':=by
   intro h3;clear T g0 hV L h2;rcases h3 with h3|⟨h3,h4⟩|⟨k,hk,h3,h4,lb,lf,B,hla,cl,hlb,hB⟩
   ·rcases h1 with⟨hq,hqq⟩|⟨hqq,hq,hi⟩
    ·go_enter func77,ntmps77;go_wp2_with fail;first|(go_end0;exact⟨rfl,by go_grown⟩)|((try simp only[Exit.inBlock,Exit.then]);refine bodyPost_ret (results_none rfl _ _ _) rfl ?_;exact⟨rfl,by go_grown⟩)
    ·subst hqq;go_enter func77,ntmps77;go_wp2_with fail;first|(go_end0;exact⟨rfl,by go_grown⟩)|((try simp only[Exit.inBlock,Exit.then]);refine bodyPost_ret (results_none rfl _ _ _) rfl ?_;exact⟨rfl,by go_grown⟩)
   ·have h3' : ¬ q<1:=by omega
    rcases h1 with⟨hq,hqq⟩|⟨hqq,hq,hi⟩
    ·go_enter func77,ntmps77;go_wp2_with fail;first|(go_end0;exact⟨rfl,by go_grown⟩)|((try simp only[Exit.inBlock,Exit.then]);refine bodyPost_ret (results_none rfl _ _ _) rfl ?_;exact⟨rfl,by go_grown⟩)
    ·subst hqq;go_enter func77,ntmps77;go_wp2_with fail;first|(go_end0;exact⟨rfl,by go_grown⟩)|((try simp only[Exit.inBlock,Exit.then]);refine bodyPost_ret (results_none rfl _ _ _) rfl ?_;exact⟨rfl,by go_grown⟩)
   ·subst hk;have hk1 : ¬ (k:Int)<1:=by omega
    have hk1':k≠0:=by omega
    have hk2 : ¬ (live.length:Int)≤(k:Int):=by omega
    have hk3 : ¬ live.length≤k:=by omega
    rw[hla]at c3;clear hla;rcases hB with rfl|⟨rfl,h5⟩
    ·rcases h1 with⟨hq,hqq⟩|⟨hqq,hq,hi⟩
     ·go_enter func77,ntmps77;go_wp2_with fail;first|(go_end0;exact⟨rfl,by go_grown⟩)|((try simp only[Exit.inBlock,Exit.then]);refine bodyPost_ret (results_none rfl _ _ _) rfl ?_;exact⟨rfl,by go_grown⟩)
     ·subst hqq;go_enter func77,ntmps77;go_wp2_with fail;first|(go_end0;exact⟨rfl,by go_grown⟩)|((try simp only[Exit.inBlock,Exit.then]);refine bodyPost_ret (results_none rfl _ _ _) rfl ?_;exact⟨rfl,by go_grown⟩)
    ·have h5':64≤(O.length:Int):=by omega
     rcases h1 with⟨hq,hqq⟩|⟨hqq,hq,hi⟩
     ·go_enter func77,ntmps77;go_wp2_with fail;first|(go_end0;exact⟨rfl,by go_grown⟩)|((try simp only[Exit.inBlock,Exit.then]);refine bodyPost_ret (results_none rfl _ _ _) rfl ?_;exact⟨rfl,by go_grown⟩)
     ·subst hqq;go_enter func77,ntmps77;go_wp2_with fail;first|(go_end0;exact⟨rfl,by go_grown⟩)|((try simp only[Exit.inBlock,Exit.then]);refine bodyPost_ret (results_none rfl _ _ _) rfl ?_;exact⟨rfl,by go_grown⟩)
  refine go ?_;by_cases q1:q<1
  ·exact .inl q1
  ·by_cases q2:(live.length:Int)≤q
   ·exact .inr (.inl ⟨by omega,q2⟩)
   ·obtain⟨k,rfl⟩:=Int.eq_ofNat_of_zero_le (show 0≤q by omega);have hk:k<live.length:=by omega
    obtain⟨lb,lf,hla,hlb,hcl⟩:∃ g o,p.la=some ⟨g,o,none⟩∧g<w.heap.size∧∀ i (h:i<live.length),w.cell? ⟨g,o+i,none⟩=some (.bool live[i]):=by
     rcases L with e|h
     ·rw[e]at hk;cases hk
     ·exact h
    refine .inr (.inr ⟨k,rfl,by omega,hk,lb,lf,live[k],hla,hcl k hk,hlb,?_⟩);rcases h2 with h2|h2
    ·refine .inl ?_;have e:portB live (k:Int)=live[k]:=by
      unfold portB;have a1:(1:Int)≤k:=by omega
      have a2:(k:Int)<(live.length:Int):=by omega
      simp[a1,hk]<;>omega
     rw[← e];exact h2
    ·cases hB:live[k]
     ·exact .inl rfl
     ·exact .inr ⟨rfl,h2⟩
theorem leave_any (t:Nat) (p:Tp) (v:Value) (O:List Ot) (nb:Nat) (live:List Bool) (s:Mt.Sn) (n:Int) (w:World) (T:Tr w t p v O nb) (hl:p.ln=live.length) (L:Gp.Ls w p.la live) (hn:live.length≤1000) :
 Calls prog 77 #[.pointer (some ⟨t,0,none⟩),Mt.snV s,.int .i64 n] w fun e w'=>e=.returned (.tuple #[])∧∃ v',Tr w' t p v' (dleaveV live s n O) nb∧Eff t v w v' w':=by
 obtain⟨a,cap,rfl⟩:=T.form;have no:∀ q,(((n==4294967288)=false∧(n==s.inp)=true)∨((((n==4294967288)=true∧s.inp=q)∨(n=q∧(q==4294967288)=false∧(q==s.inp)=false))∧(portB live q=false∨64≤O.length)))→dleaveV live s n O=O→Calls prog 77 #[.pointer (some ⟨t,0,none⟩),Mt.snV s,.int .i64 n] w fun e w'=>e=.returned (.tuple #[])∧∃ v',Tr w' t p v' (dleaveV live s n O) nb∧Eff t (.slice a O.length cap) w v' w':=fun q h he=>by
  rw[he];exact(leave_no t p a cap O nb live s n q w T hl L hn h).mono fun e w' ⟨h1,h2⟩=>⟨h1,_,T.below h2,Eff.of_below h2⟩
 by_cases hq:n=4294967288
 ·have hq':(n==4294967288)=true:=by simpa using hq
  have hd:dleaveV live s n O=if portB live s.inp=true∧O.length<64 then O++[(s.inp,s.pk)] else O:=by
   unfold dleaveV dPort;rw[if_neg (fun h=>h.1 hq),if_pos hq]
  by_cases hA:portB live s.inp=true∧O.length<64
  ·rw[hd,if_pos hA];have hp:=hA.1;unfold portB at hp;simp at hp;obtain⟨k,hk⟩:=Int.eq_ofNat_of_zero_le (show 0≤s.inp by omega);have hkl:k<live.length:=by omega
   have hlk:live[k]=true:=by
    have h3:=hp.2.2;rw[hk]at h3;simpa [hkl]using h3
   rw[hk];exact leave_put t p a cap O nb live s n k w T hl L hn (.inl ⟨hq',hk⟩) (by omega) hkl hlk hA.2
  ·refine no s.inp (.inr ⟨.inl ⟨hq',rfl⟩,?_⟩) (by rw[hd,if_neg hA]);by_cases h1:portB live s.inp=true
   ·exact .inr (by by_cases h2:O.length<64;exact absurd ⟨h1,h2⟩ hA;omega)
   ·exact .inl (by simpa using h1)
 ·have hq':(n==4294967288)=false:=by simpa using hq
  by_cases hi:n=s.inp
  ·refine no n (.inl ⟨hq',by simpa using hi⟩) ?_;unfold dleaveV;rw[if_pos ⟨hq,hi⟩]
  ·have hi':(n==s.inp)=false:=by simpa using hi
   have hd:dleaveV live s n O=if portB live n=true∧O.length<64 then O++[(n,s.pk)] else O:=by
    unfold dleaveV dPort;rw[if_neg (fun h=>hi h.2),if_neg hq]
   by_cases hA:portB live n=true∧O.length<64
   ·rw[hd,if_pos hA];have hp:=hA.1;unfold portB at hp;simp at hp;obtain⟨k,hk⟩:=Int.eq_ofNat_of_zero_le (show 0≤n by omega);have hkl:k<live.length:=by omega
    have hlk:live[k]=true:=by
     have h3:=hp.2.2;rw[hk]at h3;simpa [hkl]using h3
    subst hk;exact leave_put t p a cap O nb live s _ k w T hl L hn (.inr ⟨rfl,hq',hi'⟩) (by omega) hkl hlk hA.2
   ·refine no n (.inr ⟨.inr ⟨rfl,hq',hi'⟩,?_⟩) (by rw[hd,if_neg hA]);by_cases h1:portB live n=true
    ·exact .inr (by by_cases h2:O.length<64;exact absurd ⟨h1,h2⟩ hA;omega)
    ·exact .inl (by simpa using h1)
end Dc
theorem Sb.newr (w:World) (s:Mt.Sn):Sb (Mt.rx w s) w.heap.size s:=⟨range_new w (Mt.snC s) _,there_new w (Mt.snC s) _⟩
theorem infoRb (x:Mt.Sn):(prog.info? 56).map (·.size)=some (Mt.snC x).toList.length:=by kernel_rfl
theorem hiRb (x:Mt.Sn):(prog.info? 56).map (·.size)=some (Mt.snC x).size:=by kernel_rfl
theorem oneRb (x:Mt.Sn):(Mt.snC x).all (·.oneCell')=true:=by simp[Value.oneCell']
theorem loadRb (w:World) (b:Nat) (x:Mt.Sn) (h:Sb w b x):(loadVar 56 ⟨b,0,none⟩).run prog w=.ok (Mt.snV x) w:=run_loadVar_mid w b 0 56 (Mt.snC x).toList _ h.r underlying56 rfl (infoRb x)
theorem resRb {fn:Func} {t:Tmp} (h:fn.results=#[.cell t 56]) {tmps:Array Value} {w:World} {b:Nat} {x:Mt.Sn} (ht:tmps.getD t undef=.pointer (some ⟨b,0,none⟩)) (hs:Sb w b x) :
 (results fn tmps).run prog w=.ok (Mt.snV x) w:=by
 have ht':tmps[t]?.getD undef=.pointer (some ⟨b,0,none⟩):=by simpa using ht
 simp[results,h,ht',asAddr,loadRb w b x hs]
theorem resWb {fn:Func} {t u:Tmp} (h:fn.results=#[.tmp u,.cell t 56]) {tmps:Array Value} {w:World} {b:Nat} {x:Mt.Sn} (ht:tmps.getD t undef=.pointer (some ⟨b,0,none⟩)) (hs:Sb w b x) :
 (results fn tmps).run prog w=.ok (.tuple #[tmps.getD u undef,Mt.snV x]) w:=by
 have ht':tmps[t]?.getD undef=.pointer (some ⟨b,0,none⟩):=by simpa using ht
 simp[results,h,ht',asAddr,loadRb w b x hs]
theorem load_Rb {ops:Array Oper} {rest:List Oper} {op:Oper} {a:Go.Act} {w:World} {Q:Exit→Go.Act→World→Prop} (hw:Region.wanted op (yielded ops a.tmps)=true) (t:Operand) (ho:op.op=.load 56 t)
 (b:Nat) (x:Mt.Sn) (hx:a.eval t=.pointer (some ⟨b,0,none⟩)) (hB:Sb w b x)
 (h:wpList prog ops Q rest (a.put op.dst (Mt.snV x)) w):wpList prog ops Q (op::rest) a w :=
 BigFrame.wpList_want hw fun _ hK=>wp_load_mid 56 t ho b 0 hx (Mt.snC x).toList _ hB.r underlying56 rfl (infoRb x) (hK _ _ h)
theorem store_Rb {ops:Array Oper} {rest:List Oper} {op:Oper} {a:Go.Act} {w:World} {Q:Exit→Go.Act→World→Prop} (hgd:op.guard=none) (t y:Operand) (ho:op.op=.store 56 t y)
 (b:Nat) (x:Mt.Sn) (hx:a.eval t=.pointer (some ⟨b,0,none⟩)) (hy:a.eval y=Mt.snV x) (ht:w.there b 0 13)
 (h:∀ V,Sb V b x→Only b w V→wpList prog ops Q rest (a.put op.dst undef) V):wpList prog ops Q (op::rest) a w :=
 wpList_store_mid hgd 56 t y ho b 0 (Mt.snC x) hx hy ht (hiRb x) (oneRb x) (h _ ⟨World.rangeAt_setCells_same w b 0 (Mt.snC x).toList ht,World.there_setCells ht b 0 _⟩ (only_cells b _ _ _ _ (Only.refl b w)))
end Go.Proofs.YtgnihbdcdefdgaaGreatDoor

import Derived.Test.YtlcbfdiohcbpbaaGreatDoorZW
import Derived.Test.YtlcbfdiohcbpbaaGreatDoorZA2
import Derived.Test.YtlcbfdiohcbpbaaGreatDoorZW2
import Derived.WalkKit
import Derived.ProofKit
import Derived.OpenShut
import Derived.ShutString
import Derived.ChangeOld
import Derived.Below
import Derived.LaidMore
import Derived.Stop.Joined
import Derived.Deep.Slices
namespace Go.Proofs.YtlcbfdiohcbpbaaGreatDoor
set_option maxRecDepth 100000
open Go.ChangeShapes Go.WideShapes Go.ChangeAt Go.RowKit
theorem own:ownKnob Tryz.prog.godebug=none:=by kernel_rfl
theorem gKinds:Tryz.prog.globalNamed ((Rows.wireHeadRow.named.drop 1).headD "")=some 1:=by kernel_rfl
theorem gCodes:Tryz.prog.globalNamed (Rows.wireHeadRow.named.headD "")=some 4:=by kernel_rfl
theorem gOrder:Tryz.prog.globalNamed ((Rows.wireHeadRow.named.drop 3).headD "")=some 0:=by kernel_rfl
theorem gMcodes:Tryz.prog.globalNamed ((Rows.wireHeadRow.named.drop 2).headD "")=some 2:=by kernel_rfl
theorem tMcodes:(Tryz.prog.globals[2]?).map (·.type)=some 181:=by kernel_rfl
theorem cellsMcode:Tryz.prog.cellsOf 180=3:=by kernel_rfl
theorem cellsMcodes:Tryz.prog.cellsOf 181=33:=by kernel_rfl
theorem tKinds:(Tryz.prog.globals[1]?).map (·.type)=some 175:=by kernel_rfl
theorem tCodes:(Tryz.prog.globals[4]?).map (·.type)=some 186:=by kernel_rfl
theorem tOrder:(Tryz.prog.globals[0]?).map (·.type)=some 150:=by kernel_rfl
theorem cellsOrder:Tryz.prog.cellsOf 150=6:=by kernel_rfl
theorem cellsKind:Tryz.prog.cellsOf 174=3:=by kernel_rfl
theorem cellsKinds:Tryz.prog.cellsOf 175=15:=by kernel_rfl
theorem cellsCode:Tryz.prog.cellsOf 185=2:=by kernel_rfl
theorem cellsCodes:Tryz.prog.cellsOf 186=10:=by kernel_rfl
theorem cellsInt:Tryz.prog.cellsOf 3=1:=by kernel_rfl
abbrev laidL:List (String × DataW Unit):=Rows.wireHeadRow.laid
theorem kind_cells {W:World} {cs:List Value} {p:List MemPlace} {m:Nat} {a b c:Int} (h:DataW.trod (fun _=>()) Tryz.prog W 0 (fun _=>true) false m 174 cs=some (.agg [.lit (.int .i64 a),.lit (.int .i64 b),.lit (.int .i64 c)],p)) :
    cs=[.int .i64 a,.int .i64 b,.int .i64 c]:=by
  obtain ⟨xs,k,_,hxy,hcl,hxl,hf⟩:=DataW.trod_struct Tryz.underlying174 h
  rw [cellsKind] at hcl
  match xs,hxl,cs,hcl with
  | [y0,y1,y2],_,[v0,v1,v2],_ =>
    have g0:=hf 0 _ rfl
    have g1:=hf 1 _ rfl
    have g2:=hf 2 _ rfl
    simp [cellsInt] at g0 g1 g2
    obtain ⟨n0,e0,d0,_⟩:=DataW.trod_int Tryz.underlying3 g0
    obtain ⟨n1,e1,d1,_⟩:=DataW.trod_int Tryz.underlying3 g1
    obtain ⟨n2,e2,d2,_⟩:=DataW.trod_int Tryz.underlying3 g2
    subst d0 d1 d2
    simp at e0 e1 e2 hxy
    obtain ⟨⟨rfl,rfl,rfl⟩,_⟩:=hxy
    rw [e0,e1,e2]
theorem mcode_cells {W:World} {cs:List Value} {p:List MemPlace} {m:Nat} {a b c:Int} (h:DataW.trod (fun _=>()) Tryz.prog W 0 (fun _=>true) false m 180 cs=some (.agg [.lit (.int .i64 a),.lit (.int .i64 b),.lit (.int .i64 c)],p)) :
    cs=[.int .i64 a,.int .i64 b,.int .i64 c]:=by
  obtain ⟨xs,k,_,hxy,hcl,hxl,hf⟩:=DataW.trod_struct Tryz.underlying180 h
  rw [cellsMcode] at hcl
  match xs,hxl,cs,hcl with
  | [y0,y1,y2],_,[v0,v1,v2],_ =>
    have g0:=hf 0 _ rfl
    have g1:=hf 1 _ rfl
    have g2:=hf 2 _ rfl
    simp [cellsInt] at g0 g1 g2
    obtain ⟨n0,e0,d0,_⟩:=DataW.trod_int Tryz.underlying3 g0
    obtain ⟨n1,e1,d1,_⟩:=DataW.trod_int Tryz.underlying3 g1
    obtain ⟨n2,e2,d2,_⟩:=DataW.trod_int Tryz.underlying3 g2
    subst d0 d1 d2
    simp at e0 e1 e2 hxy
    obtain ⟨⟨rfl,rfl,rfl⟩,_⟩:=hxy
    rw [e0,e1,e2]
theorem code_cells {W:World} {cs:List Value} {p:List MemPlace} {m:Nat} {a b:Int} (h:DataW.trod (fun _=>()) Tryz.prog W 0 (fun _=>true) false m 185 cs=some (.agg [.lit (.int .i64 a),.lit (.int .i64 b)],p)) :
    cs=[.int .i64 a,.int .i64 b]:=by
  obtain ⟨xs,k,_,hxy,hcl,hxl,hf⟩:=DataW.trod_struct Tryz.underlying185 h
  rw [cellsCode] at hcl
  match xs,hxl,cs,hcl with
  | [y0,y1],_,[v0,v1],_ =>
    have g0:=hf 0 _ rfl
    have g1:=hf 1 _ rfl
    simp [cellsInt] at g0 g1
    obtain ⟨n0,e0,d0,_⟩:=DataW.trod_int Tryz.underlying3 g0
    obtain ⟨n1,e1,d1,_⟩:=DataW.trod_int Tryz.underlying3 g1
    subst d0 d1
    simp at e0 e1 hxy
    obtain ⟨⟨rfl,rfl⟩,_⟩:=hxy
    rw [e0,e1]
theorem ct_of_laid {W:World} (h:laidMetH Tryz.prog laidL W):Ct W:=by
 rw [MakeChecks.laidMetH_plain _ _ _ (by kernel_rfl)] at h
 obtain ⟨ps,⟨g0,t0,cs0,f0,p0,q0,hg0,ht0,hv0,hd0,⟨g1,t1,cs1,f1,p1,q1,hg1,ht1,hv1,hd1,⟨g2,t2,cs2,f2,p2,q2,hg2,ht2,hv2,hd2,⟨g3,t3,cs3,f3,p3,q3,hg3,ht3,hv3,hd3,_,_⟩,_⟩,_⟩,_⟩,_,_⟩:=h
 obtain rfl:=Option.some.inj (gKinds.symm.trans hg0)
 obtain rfl:=Option.some.inj (tKinds.symm.trans ht0)
 obtain rfl:=Option.some.inj (gCodes.symm.trans hg1)
 obtain rfl:=Option.some.inj (tCodes.symm.trans ht1)
 obtain rfl:=Option.some.inj (gOrder.symm.trans hg2)
 obtain rfl:=Option.some.inj (tOrder.symm.trans ht2)
 obtain rfl:=Option.some.inj (gMcodes.symm.trans hg3)
 obtain rfl:=Option.some.inj (tMcodes.symm.trans ht3)
 refine ⟨⟨?_,?_,?_⟩,?_⟩
 ·clear hd1 hv1 hg1 ht1 hd2 hv2 hg2 ht2 hd3 hv3 hg3 ht3
  obtain ⟨xs,m1,rfl,hx1,hlen,hn,hel⟩:=DataW.trod_array Tryz.underlying175 hd0
  rw [cellsKinds] at hlen
  rw [cellsKind] at hel
  have hx:=(Prod.mk.inj hx1).1
  unfold Rows.laid_drover_act_kinds at hx
  simp only [DataW.agg.injEq] at hx
  have at_:∀ (i:Nat) (d:DataW Unit),i < 5→(xs.map (fun x=>x.fst))[i]? = some d→∃ p,DataW.trod (fun _=>()) Tryz.prog W 0 (fun _=>true) false m1 174 (List.take 3 (List.drop (i * 3) cs0.toList))=some (d,p):=by
   intro i d hi hd
   rw [List.getElem?_map,Option.map_eq_some_iff] at hd
   obtain ⟨y,hy,rfl⟩:=hd
   exact ⟨y.2,(hel i hi).trans hy⟩
  rw [← hx] at at_
  have key:cs0.toList=kindsA.toList:=by
   generalize cs0.toList=L at *
   have step:∀ i,L.drop (i * 3)=(L.drop (i * 3)).take 3 ++ L.drop ((i + 1) * 3):=fun i=>by
    have:=(List.take_append_drop 3 (L.drop (i * 3))).symm
    rwa [List.drop_drop,show i * 3 + 3=(i + 1) * 3 by omega] at this
   have s0:=step 0
   rw [kind_cells (at_ 0 _ (by decide) rfl).choose_spec] at s0
   have s1:=step 1
   rw [kind_cells (at_ 1 _ (by decide) rfl).choose_spec] at s1
   have s2:=step 2
   rw [kind_cells (at_ 2 _ (by decide) rfl).choose_spec] at s2
   have s3:=step 3
   rw [kind_cells (at_ 3 _ (by decide) rfl).choose_spec] at s3
   have s4:=step 4
   rw [kind_cells (at_ 4 _ (by decide) rfl).choose_spec] at s4
   have s5:L.drop (5 * 3)=[]:=List.drop_of_length_le (by omega)
   have z:L=L.drop (0 * 3):=rfl
   rw [z,s0,s1,s2,s3,s4,s5]
   rfl
  have e:cs0=kindsA:=Array.toList_inj.1 key
  subst e
  simp only [World.var?,hg0,Option.bind_some] at hv0
  split at hv0
  ·rename_i c t fr hb
   cases hv0
   exact ⟨t,fr,hb⟩
  ·cases hv0
 ·clear hd0 hv0 hg0 ht0 hd2 hv2 hg2 ht2 hd3 hv3 hg3 ht3
  obtain ⟨xs,m1,rfl,hx1,hlen,hn,hel⟩:=DataW.trod_array Tryz.underlying186 hd1
  rw [cellsCodes] at hlen
  rw [cellsCode] at hel
  have hx:=(Prod.mk.inj hx1).1
  unfold Rows.laid_drover_act_codes at hx
  simp only [DataW.agg.injEq] at hx
  have at_:∀ (i:Nat) (d:DataW Unit),i < 5→(xs.map (fun x=>x.fst))[i]? = some d→∃ p,DataW.trod (fun _=>()) Tryz.prog W 0 (fun _=>true) false m1 185 (List.take 2 (List.drop (i * 2) cs1.toList))=some (d,p):=by
   intro i d hi hd
   rw [List.getElem?_map,Option.map_eq_some_iff] at hd
   obtain ⟨y,hy,rfl⟩:=hd
   exact ⟨y.2,(hel i hi).trans hy⟩
  rw [← hx] at at_
  have key:cs1.toList=codesA.toList:=by
   generalize cs1.toList=L at *
   have step:∀ i,L.drop (i * 2)=(L.drop (i * 2)).take 2 ++ L.drop ((i + 1) * 2):=fun i=>by
    have:=(List.take_append_drop 2 (L.drop (i * 2))).symm
    rwa [List.drop_drop,show i * 2 + 2=(i + 1) * 2 by omega] at this
   have s0:=step 0
   rw [code_cells (at_ 0 _ (by decide) rfl).choose_spec] at s0
   have s1:=step 1
   rw [code_cells (at_ 1 _ (by decide) rfl).choose_spec] at s1
   have s2:=step 2
   rw [code_cells (at_ 2 _ (by decide) rfl).choose_spec] at s2
   have s3:=step 3
   rw [code_cells (at_ 3 _ (by decide) rfl).choose_spec] at s3
   have s4:=step 4
   rw [code_cells (at_ 4 _ (by decide) rfl).choose_spec] at s4
   have s5:L.drop (5 * 2)=[]:=List.drop_of_length_le (by omega)
   have z:L=L.drop (0 * 2):=rfl
   rw [z,s0,s1,s2,s3,s4,s5]
   rfl
  have e:cs1=codesA:=Array.toList_inj.1 key
  subst e
  simp only [World.var?,hg1,Option.bind_some] at hv1
  split at hv1
  ·rename_i c t fr hb
   cases hv1
   exact ⟨t,fr,hb⟩
  ·cases hv1
 ·clear hd0 hv0 hg0 ht0 hd1 hv1 hg1 ht1 hd3 hv3 hg3 ht3
  obtain ⟨xs,m1,rfl,hx1,hlen,hn,hel⟩:=DataW.trod_array Tryz.underlying150 hd2
  rw [cellsOrder] at hlen
  rw [cellsInt] at hel
  have hx:=(Prod.mk.inj hx1).1
  unfold Rows.laid_drover_instr_order at hx
  simp only [DataW.agg.injEq] at hx
  have at_:∀ (i:Nat) (n:Int),i < 6→(xs.map (fun x=>x.fst))[i]? = some (.lit (.int .i64 n))→List.take 1 (List.drop (i * 1) cs2.toList)=[.int .i64 n]:=by
   intro i n hi hd
   rw [List.getElem?_map,Option.map_eq_some_iff] at hd
   obtain ⟨y,hy,hyn⟩:=hd
   obtain ⟨n0,e0,d0,_⟩:=DataW.trod_int Tryz.underlying3 ((hel i hi).trans hy)
   rw [d0] at hyn
   simp at hyn
   rw [e0,hyn]
  rw [← hx] at at_
  have key:cs2.toList=orderA.toList:=by
   generalize cs2.toList=L at *
   have step:∀ i,L.drop (i * 1)=(L.drop (i * 1)).take 1 ++ L.drop ((i + 1) * 1):=fun i=>by
    have:=(List.take_append_drop 1 (L.drop (i * 1))).symm
    rwa [List.drop_drop,show i * 1 + 1=(i + 1) * 1 by omega] at this
   have s0:=step 0
   rw [at_ 0 _ (by decide) rfl] at s0
   have s1:=step 1
   rw [at_ 1 _ (by decide) rfl] at s1
   have s2:=step 2
   rw [at_ 2 _ (by decide) rfl] at s2
   have s3:=step 3
   rw [at_ 3 _ (by decide) rfl] at s3
   have s4:=step 4
   rw [at_ 4 _ (by decide) rfl] at s4
   have s5:=step 5
   rw [at_ 5 _ (by decide) rfl] at s5
   have s6:L.drop (6 * 1)=[]:=List.drop_of_length_le (by omega)
   have z:L=L.drop (0 * 1):=rfl
   rw [z,s0,s1,s2,s3,s4,s5,s6]
   rfl
  have e:cs2=orderA:=Array.toList_inj.1 key
  subst e
  simp only [World.var?,hg2,Option.bind_some] at hv2
  split at hv2
  ·rename_i c t fr hb
   cases hv2
   exact ⟨t,fr,hb⟩
  ·cases hv2
 ·clear hd0 hv0 hg0 ht0 hd1 hv1 hg1 ht1 hd2 hv2 hg2 ht2
  obtain ⟨xs,m1,rfl,hx1,hlen,hn,hel⟩:=DataW.trod_array Tryz.underlying181 hd3
  rw [cellsMcodes] at hlen
  rw [cellsMcode] at hel
  have hx:=(Prod.mk.inj hx1).1
  unfold Rows.laid_drover_match_codes at hx
  simp only [DataW.agg.injEq] at hx
  have at_:∀ (i:Nat) (d:DataW Unit),i < 11→(xs.map (fun x=>x.fst))[i]? = some d→∃ p,DataW.trod (fun _=>()) Tryz.prog W 0 (fun _=>true) false m1 180 (List.take 3 (List.drop (i * 3) cs3.toList))=some (d,p):=by
   intro i d hi hd
   rw [List.getElem?_map,Option.map_eq_some_iff] at hd
   obtain ⟨y,hy,rfl⟩:=hd
   exact ⟨y.2,(hel i hi).trans hy⟩
  rw [← hx] at at_
  have key:cs3.toList=Mt.codesA.toList:=by
   generalize cs3.toList=L at *
   have step:∀ i,L.drop (i * 3)=(L.drop (i * 3)).take 3 ++ L.drop ((i + 1) * 3):=fun i=>by
    have:=(List.take_append_drop 3 (L.drop (i * 3))).symm
    rwa [List.drop_drop,show i * 3 + 3=(i + 1) * 3 by omega] at this
   have s0:=step 0
   rw [mcode_cells (at_ 0 _ (by decide) rfl).choose_spec] at s0
   have s1:=step 1
   rw [mcode_cells (at_ 1 _ (by decide) rfl).choose_spec] at s1
   have s2:=step 2
   rw [mcode_cells (at_ 2 _ (by decide) rfl).choose_spec] at s2
   have s3:=step 3
   rw [mcode_cells (at_ 3 _ (by decide) rfl).choose_spec] at s3
   have s4:=step 4
   rw [mcode_cells (at_ 4 _ (by decide) rfl).choose_spec] at s4
   have s5:=step 5
   rw [mcode_cells (at_ 5 _ (by decide) rfl).choose_spec] at s5
   have s6:=step 6
   rw [mcode_cells (at_ 6 _ (by decide) rfl).choose_spec] at s6
   have s7:=step 7
   rw [mcode_cells (at_ 7 _ (by decide) rfl).choose_spec] at s7
   have s8:=step 8
   rw [mcode_cells (at_ 8 _ (by decide) rfl).choose_spec] at s8
   have s9:=step 9
   rw [mcode_cells (at_ 9 _ (by decide) rfl).choose_spec] at s9
   have s10:=step 10
   rw [mcode_cells (at_ 10 _ (by decide) rfl).choose_spec] at s10
   have s11:L.drop (11 * 3)=[]:=List.drop_of_length_le (by omega)
   have z:L=L.drop (0 * 3):=rfl
   rw [z,s0,s1,s2,s3,s4,s5,s6,s7,s8,s9,s10,s11]
   rfl
  have e:cs3=Mt.codesA:=Array.toList_inj.1 key
  subst e
  simp only [World.var?,hg3,Option.bind_some] at hv3
  split at hv3
  ·rename_i c t fr hb
   cases hv3
   exact ⟨t,fr,hb⟩
  ·cases hv3
theorem door_met (os:Os) (args:Array Value):laidMetH Tryz.prog laidL ((World.doorLaid Tryz.prog 400 os).forCall (fun _ _=>0) ⟨#[],args,[]⟩).memory :=
 laidMetH_of_parts3 (fuel:=8) (laidMet_of_run' 8 (by kernel_rfl) (by kernel_rfl)) (by kernel_rfl) (by kernel_rfl)
theorem plain (g o j:Nat):(⟨g,o,none⟩:Addr).add j=⟨g,o + j,none⟩:=by unfold Addr.add;split <;> simp_all
end Go.Proofs.YtlcbfdiohcbpbaaGreatDoor

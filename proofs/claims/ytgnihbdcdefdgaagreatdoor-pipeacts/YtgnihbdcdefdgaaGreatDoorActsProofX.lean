/-
  Proved here: for all parts that are handed in (entries, groups, meters' rates and bursts, which ports are alive), every packet in a switch and every slice of actions the law PipeActs answers true (of parts of up to 30 entries, 20 groups, 20 meters and 50 ports, entries of up to 20 tests, up to 40 actions to apply and up to 40 to write, groups of up to 16 buckets of up to 20 actions, and up to 40 actions: pipe.Act lets the packets leave that the document's Act lets leave, by the same ports in the same order, and the packet behind it is the document's, the pick being the number of actions; of greater parts and of more actions the law says nothing but that all could be made and the chapter's example), and its arguments read afterwards as before. Condition: the tables act.kinds and act.codes start as the program's text lays them (the card ties them); there are no other conditions.
-/
import Derived.Test.YtgnihbdcdefdgaaGreatDoorRows
import Derived.Test.YtgnihbdcdefdgaaGreatDoorCards
import Derived.Test.YtgnihbdcdefdgaaGreatDoorTie
import Derived.Test.YtgnihbdcdefdgaaGreatDoorXA17
import Derived.Test.YtgnihbdcdefdgaaGreatDoorX31
import Derived.SevenTiedAt
set_option maxRecDepth 100000
set_option linter.unusedVariables false
open Go.ChangeShapes Go.WideShapes Go.ChangeAt Go.RowKit
open Go.Proofs.Tryz
namespace Go.Proofs.YtgnihbdcdefdgaaGreatDoor
namespace pipeActs
open Go.ChangeMaps (open_string shut_string)
theorem lifted (os:Os) (started:os.Started) (H:Type) (enc:TypeId × Value→H) :
 ReturnsInHanded {} Tryz.checked os 4 .any (fun w args=>(Rows.pipeActsSpec.pre enc prog Tryz.f4 [] false w args∧laidMetH prog laidL w)∧sizedMet enc prog Tryz.f4 (OpenSpec.ofChange Rows.pipeActsSpec) false w args)
  (Rows.pipeActsSpec.post enc prog Tryz.f4 false true false false):=by
 refine returnsInHanded_of_change_and (C:=Tryz.checked) (X:=fun w _=>laidMetH prog laidL w) (fun _ _ _ hh h=>h.of_heap hh) own started (by kernel_rfl) func4
  (ChangeSpec.witness_shaped (enc:=enc) (C:=Tryz.checked) (os:=os) (X:=fun w _=>laidMetH prog laidL w) false (World.doorLaid prog 400 os) #[.agg #[.slice none 0 0,.slice none 0 0,.slice none 0 0,.slice none 0 0],.agg #[.int .i64 0,.int .u64 0,.int .u64 0,.int .u64 0,.int .i64 0,.int .i64 0,.int .u32 0,.int .u32 0,.int .i64 0,.int .i64 0,.int .i64 0,.int .i64 0,.string ⟨#[]⟩],.slice none 0 0] 8 rfl (World.shaped_of_RefB (by kernel_rfl) (by kernel_rfl)) (by kernel_rfl) (by kernel_rfl) (by kernel_rfl) (door_met os _)) ?_
 intro W base args ds gs before hval0 hW _ hwt hL _;have hcd:=cd_of_laid hL;have hval:∀ (j:Nat) t v,Tryz.f4.params[j]? = some t→args[j]? = some v→Value.okWide prog W .any base t v:=hval0;have hW':=hW;obtain⟨p,q,hA0,hV,rfl,hfz,hnd⟩:=hW;have hA:DataW.TrodAll enc prog W 0 (fun _=>true) true Tryz.f4.params.toList args.toList ds p:=hA0;rw[params4]at hA hval;obtain⟨v0,vs0,d0,ds0,p0,q0,hargs,rfl,rfl,h0,r0⟩:=trodAll_cons hA;obtain⟨v1,vs1,d1,ds1,p1,q1,rfl,rfl,rfl,h1,r1⟩:=trodAll_cons r0;obtain⟨v2,vs2,d2,ds2,p2,q2,rfl,rfl,rfl,h2,r2⟩:=trodAll_cons r1;obtain⟨rfl,rfl,rfl⟩:=trodAll_nil r2;obtain rfl:args=#[v0,v1,v2]:=by cases args;simp_all
 obtain⟨rfl,rfl⟩:=trodVars_none hV;have k0:=h0;have lt0:∀ x∈p0,x.block<W.heap.size:=by obtain⟨m,hm⟩:=k0;exact DataW.trod_lt m _ _ _ hm
 have hw0:∀ n∈d0.weights prog 27,n≤reachBytes:=fun n hn=>by
  have:=List.all_eq_true.1 hwt n (DataW.weights_mem_each (j:=0) (t:=27) (d:=d0) (by rw[params4];rfl) rfl n hn);simpa using this
 obtain⟨ea,el,ec,ga,gl,gc,ma,ml,mc,la,live,lc,rfl,I0⟩:=open_made (hval 0 27 v0 rfl rfl) h0 lt0 hw0 hcd;have k1:=h1;have lt1:∀ x∈p1,x.block<W.heap.size:=by obtain⟨m,hm⟩:=k1;exact DataW.trod_lt m _ _ _ hm
 obtain⟨s1,rfl,w1,f1,z1⟩:=open_sn2 (hval 1 49 v1 rfl rfl) h1;obtain⟨a2,len2,cap2,rfl⟩:=okWide_slice underlying63 (hval 2 63 v2 rfl rfl);have k2:=h2;have lt2:∀ x∈p2,x.block<W.heap.size:=by obtain⟨m,hm⟩:=k2;exact DataW.trod_lt m _ _ _ hm
 obtain⟨l2,e2,t2,u2,c2,n2⟩:∃ l:List A,l.length=len2∧Ts W a2 l∧AWs l∧len2≤cap2∧len2≤maxLen:=by
  obtain⟨fuel,hf⟩:=h2;exact acts_of (x:=(d2,p2)) lt2 hf
 subst e2;clear hA0 hval0;refine(acts_walk ea el ec ga gl gc ma ml mc la live lc s1 a2 l2 cap2 W I0 w1 f1 z1 t2 u2 (by unfold maxLen at n2;omega)).mono fun e W' ⟨he,bel⟩ => ?_;subst he;exact⟨_,rfl,_,_,_,[],_,[],hW',trodAll_mk1 (shut_bool underlying4 _),(trodAll_cons_mk (Below.trod laidOut (by kernel_rfl) (of_decide_eq_true (by kernel_rfl)) k0 bel lt0) (trodAll_cons_mk (Below.trod laidOut (by kernel_rfl) (of_decide_eq_true (by kernel_rfl)) k1 bel lt1) (trodAll_cons_mk (Below.trod laidOut (by kernel_rfl) (of_decide_eq_true (by kernel_rfl)) k2 bel lt2) trodAll_mk0))),rfl,bel.frame _,fun h=>by cases h⟩
theorem over:Rows.PipeActsSaid :=
 OpenClaim.holds_of_wide 4 Tryz.f4 rfl rfl rfl rfl rfl rfl rfl ⟨rfl,rfl,rfl,rfl,rfl⟩ rfl rfl rfl rfl rfl (by kernel_rfl) func4 (by kernel_rfl)
  (of_decide_eq_true (by kernel_rfl)) (by unfold Func.isWrapper;first|(rw[if_pos (by decide +kernel)];kernel_rfl)|(rw[if_neg (by decide +kernel)];exact⟨rfl,rfl⟩))
  (fun os started H enc _=>lifted os started H enc)
theorem card:Rows.PipeActsCardSaid :=
 Claim7.holds_tied_plain_at .later [] [.data,.data] true (true,"4a0305c360df6f0c98e274e60f8db60d93c9e2124eee3e981a66268cf2738dda") false
  over (fun _ h=>by cases h) (by kernel_rfl) (fun _ h=>by cases h) pipeActs_row_tie rfl ⟨rfl,rfl⟩ (by kernel_rfl) rfl
  (fun f fn hf hfn=>by
    obtain rfl:f=4:=Option.some.inj ((show prog.funcNamed Rows.pipeActsRow.func=some 4 by kernel_rfl).symm.trans hf) |>.symm;obtain rfl:fn=Tryz.f4:=(Option.some.inj (func4.symm.trans hfn)).symm;exact⟨by kernel_rfl,fun j t ht=>by
     rw[params4]at ht;rcases j with _|j
     ·have h3:t=27:=by simpa using ht.symm
      subst h3;exact(show prog.wantsStandIn 27=false by kernel_rfl)
     rcases j with _|j
     ·have h3:t=49:=by simpa using ht.symm
      subst h3;exact(show prog.wantsStandIn 49=false by kernel_rfl)
     rcases j with _|j
     ·have h3:t=63:=by simpa using ht.symm
      subst h3;exact(show prog.wantsStandIn 63=false by kernel_rfl)
     simp at ht⟩)
  (by kernel_rfl)
end pipeActs
theorem pipeActs_holds:Rows.PipeActsCardSaid:=pipeActs.card
end Go.Proofs.YtgnihbdcdefdgaaGreatDoor

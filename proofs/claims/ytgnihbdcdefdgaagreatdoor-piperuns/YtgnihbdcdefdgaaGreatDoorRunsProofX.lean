/-
  Proved here: for all parts that are handed in (entries, groups, meters' rates and bursts, which ports are alive), every slice of packets in a switch and every pick the law PipeRuns answers true (of parts of up to 30 entries, 20 groups, 20 meters and 50 ports, entries of up to 20 tests, up to 40 actions to apply and up to 40 to write, groups of up to 16 buckets of up to 20 actions, and the first 10 packets as long as each has up to 1500 bytes of data: pipe.Run lets the packets leave that the document's Run lets leave, by the same ports in the same order, and behind each packet the meters from number 1 on have left what the document's have; of greater parts, of what comes behind a greater packet and of what comes behind the tenth the law says nothing but that all could be made and the chapter's example), and its arguments read afterwards as before. Condition: the tables act.kinds and act.codes start as the program's text lays them (the card ties them); there are no other conditions.
-/
import Derived.Test.YtgnihbdcdefdgaaGreatDoorRows
import Derived.Test.YtgnihbdcdefdgaaGreatDoorCards
import Derived.Test.YtgnihbdcdefdgaaGreatDoorTie
import Derived.Test.YtgnihbdcdefdgaaGreatDoorXR5
import Derived.Test.YtgnihbdcdefdgaaGreatDoorX31
import Derived.SevenTiedAt
set_option maxRecDepth 100000
set_option linter.unusedVariables false
open Go.ChangeShapes Go.WideShapes Go.ChangeAt Go.RowKit
open Go.Proofs.Tryz
namespace Go.Proofs.YtgnihbdcdefdgaaGreatDoor
namespace pipeRuns
open Go.ChangeMaps (open_string shut_string)
theorem lifted (os:Os) (started:os.Started) (H:Type) (enc:TypeId × Value→H) :
 ReturnsInHanded {} Tryz.checked os 3 .any (fun w args=>(Rows.pipeRunsSpec.pre enc prog Tryz.f3 [] false w args∧laidMetH prog laidL w)∧sizedMet enc prog Tryz.f3 (OpenSpec.ofChange Rows.pipeRunsSpec) false w args)
  (Rows.pipeRunsSpec.post enc prog Tryz.f3 false true false false):=by
 refine returnsInHanded_of_change_and (C:=Tryz.checked) (X:=fun w _=>laidMetH prog laidL w) (fun _ _ _ hh h=>h.of_heap hh) own started (by kernel_rfl) func3
  (ChangeSpec.witness_shaped (enc:=enc) (C:=Tryz.checked) (os:=os) (X:=fun w _=>laidMetH prog laidL w) false (World.doorLaid prog 400 os) #[.agg #[.slice none 0 0,.slice none 0 0,.slice none 0 0,.slice none 0 0],.slice none 0 0,.int .i64 0] 8 rfl (World.shaped_of_RefB (by kernel_rfl) (by kernel_rfl)) (by kernel_rfl) (by kernel_rfl) (by kernel_rfl) (door_met os _)) ?_
 intro W base args ds gs before hval0 hW _ hwt hL _;have hcd:=cd_of_laid hL;have hval:∀ (j:Nat) t v,Tryz.f3.params[j]? = some t→args[j]? = some v→Value.okWide prog W .any base t v:=hval0;have hW':=hW;obtain⟨p,q,hA0,hV,rfl,hfz,hnd⟩:=hW;have hA:DataW.TrodAll enc prog W 0 (fun _=>true) true Tryz.f3.params.toList args.toList ds p:=hA0;rw[params3]at hA hval;obtain⟨v0,vs0,d0,ds0,p0,q0,hargs,rfl,rfl,h0,r0⟩:=trodAll_cons hA;obtain⟨v1,vs1,d1,ds1,p1,q1,rfl,rfl,rfl,h1,r1⟩:=trodAll_cons r0;obtain⟨v2,vs2,d2,ds2,p2,q2,rfl,rfl,rfl,h2,r2⟩:=trodAll_cons r1;obtain⟨rfl,rfl,rfl⟩:=trodAll_nil r2;obtain rfl:args=#[v0,v1,v2]:=by cases args;simp_all
 obtain⟨rfl,rfl⟩:=trodVars_none hV;have k0:=h0;have lt0:∀ x∈p0,x.block<W.heap.size:=by obtain⟨m,hm⟩:=k0;exact DataW.trod_lt m _ _ _ hm
 have hw0:∀ n∈d0.weights prog 27,n≤reachBytes:=fun n hn=>by
  have:=List.all_eq_true.1 hwt n (DataW.weights_mem_each (j:=0) (t:=27) (d:=d0) (by rw[params3];rfl) rfl n hn);simpa using this
 obtain⟨ea,el,ec,ga,gl,gc,ma,ml,mc,la,live,lc,rfl,I0⟩:=open_made (hval 0 27 v0 rfl rfl) h0 lt0 hw0 hcd;obtain⟨a1,len1,cap1,rfl⟩:=okWide_slice underlying28 (hval 1 28 v1 rfl rfl);have k1:=h1;have lt1:∀ x∈p1,x.block<W.heap.size:=by obtain⟨m,hm⟩:=k1;exact DataW.trod_lt m _ _ _ hm
 obtain⟨l1,e1,t1,u1,n1⟩:∃ l:List Mt.Sn,l.length=len1∧Sl W a1 l∧(∀ s∈l,Mt.Wf s∧Fr.Wf s.pk)∧len1≤maxLen:=by
  obtain⟨fuel,hf⟩:=h1;exact packets_of (x:=(d1,p1)) lt1 hf
 subst e1;obtain⟨s2,rfl,rfl,rfl,w2⟩:=open_int underlying3 (hval 2 3 v2 rfl rfl) h2;clear hA0 hval0;refine(runs_walk ea el ec ga gl gc ma ml mc la live lc a1 l1 cap1 s2 W I0 t1 u1 (by unfold maxLen at n1;omega) (wf_i64 w2).1 (by have:=(wf_i64 w2).2;omega)).mono fun e W' ⟨he,bel⟩ => ?_;subst he;exact⟨_,rfl,_,_,_,[],_,[],hW',trodAll_mk1 (shut_bool underlying4 _),(trodAll_cons_mk (Below.trod laidOut (by kernel_rfl) (of_decide_eq_true (by kernel_rfl)) k0 bel lt0) (trodAll_cons_mk (Below.trod laidOut (by kernel_rfl) (of_decide_eq_true (by kernel_rfl)) k1 bel lt1) (trodAll_cons_mk (shut_int underlying3 w2) trodAll_mk0))),rfl,bel.frame _,fun h=>by cases h⟩
theorem over:Rows.PipeRunsSaid :=
 OpenClaim.holds_of_wide 3 Tryz.f3 rfl rfl rfl rfl rfl rfl rfl ⟨rfl,rfl,rfl,rfl,rfl⟩ rfl rfl rfl rfl rfl (by kernel_rfl) func3 (by kernel_rfl)
  (of_decide_eq_true (by kernel_rfl)) (by unfold Func.isWrapper;first|(rw[if_pos (by decide +kernel)];kernel_rfl)|(rw[if_neg (by decide +kernel)];exact⟨rfl,rfl⟩))
  (fun os started H enc _=>lifted os started H enc)
theorem card:Rows.PipeRunsCardSaid :=
 Claim7.holds_tied_plain_at .later [] [.data,.data] true (true,"4a0305c360df6f0c98e274e60f8db60d93c9e2124eee3e981a66268cf2738dda") false
  over (fun _ h=>by cases h) (by kernel_rfl) (fun _ h=>by cases h) pipeRuns_row_tie rfl ⟨rfl,rfl⟩ (by kernel_rfl) rfl
  (fun f fn hf hfn=>by
    obtain rfl:f=3:=Option.some.inj ((show prog.funcNamed Rows.pipeRunsRow.func=some 3 by kernel_rfl).symm.trans hf) |>.symm;obtain rfl:fn=Tryz.f3:=(Option.some.inj (func3.symm.trans hfn)).symm;exact⟨by kernel_rfl,fun j t ht=>by
     rw[params3]at ht;rcases j with _|j
     ·have h3:t=27:=by simpa using ht.symm
      subst h3;exact(show prog.wantsStandIn 27=false by kernel_rfl)
     rcases j with _|j
     ·have h3:t=28:=by simpa using ht.symm
      subst h3;exact(show prog.wantsStandIn 28=false by kernel_rfl)
     rcases j with _|j
     ·have h3:t=3:=by simpa using ht.symm
      subst h3;exact(show prog.wantsStandIn 3=false by kernel_rfl)
     simp at ht⟩)
  (by kernel_rfl)
end pipeRuns
theorem pipeRuns_holds:Rows.PipeRunsCardSaid:=pipeRuns.card
end Go.Proofs.YtgnihbdcdefdgaaGreatDoor

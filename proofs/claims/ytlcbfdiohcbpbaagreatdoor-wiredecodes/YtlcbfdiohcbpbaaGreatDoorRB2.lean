import Derived.Test.YtlcbfdiohcbpbaaGreatDoorRBodyP
namespace Go.Proofs.YtlcbfdiohcbpbaaGreatDoor
set_option maxRecDepth 20000
set_option maxHeartbeats 16000000
open Go.ChangeShapes Go.WideShapes Go.ChangeAt Go.RowKit
set_option linter.unusedVariables false
set_option linter.unusedSimpArgs false
def own2 (m:Ms):Ms:={ own0 m with dat:=m.dat }
theorem start2 {w V:World} {m:Ms} (h:RW w m (own0 m) V):∃ U0,V.setCell ⟨w.heap.size + 2,25,none⟩ (.string m.dat)=U0∧(V.cell? ⟨w.heap.size,0,none⟩=some (.int .i64 m.kind)∧V.cell? ⟨w.heap.size,25,none⟩=some (.string m.dat)∧V.cell? ⟨w.heap.size + 2,25,none⟩=some (.string ⟨#[]⟩)∧V.frozen? ⟨w.heap.size + 2,25,none⟩=false)∧RW w m (own2 m) U0:=by
 have h1:=h.one 25 (.string m.dat) (own2 m) (by decide) rfl
 exact ⟨_,rfl,⟨h.m 0 _ rfl,h.m 25 _ rfl,h.o 25 _ rfl,h.f 25 (by decide)⟩,h1⟩
theorem rb2 (m:Ms) (w:World) (k0:(m.kind == 0)=false) (k20:(m.kind == 20)=false) (k21:(m.kind == 21)=false) (k1:(m.kind == 1)=false) (hk:(m.kind == 2)=true∨((m.kind == 2)=false∧(m.kind == 3)=true)) :
    Calls Tryz.prog 19 #[msV m] w fun e w'=>e=.returned (.tuple #[.string (m.dat),msV (own2 m),.bool (decide ((m.dat.size:Int)≤1000))])∧Below w.heap.size w w':=by
  obtain ⟨W1,hW1,s1,f0,f1,hY,HV⟩:=rb_set m w
  rcases hk with k2 | ⟨k2,k3⟩
  all_goals
    go_enter Tryz.func19,Tryz.ntmps19
    go_wp2_with (first | (refine build_R rfl (.tmp 24) (.tmp 26) rfl m.kind m.xid rfl rfl ?_) | (refine store_R rfl (.tmp 5) (.tmp 27) rfl (w.heap.size + 2) (own0 m) rfl rfl hY ?_;intro V bV tV oV;obtain ⟨U0,E0,⟨a0_0,a0_1,a0_2,a0_3⟩,R⟩:=start2 (HV.out V bV tV oV);clear bV tV oV HV hY hW1 f0 f1 s1))
    clear E0 a0_0 a0_1 a0_2 a0_3
    have hc:∀ n:GhT U0 (w.heap.size + 1),n.w.cell? ⟨w.heap.size,25,none⟩=some (.string m.dat):=fun n=>R.gm 25 _ rfl n
    have HO:Hid (∀ u,(∃ n:GhT U0 (w.heap.size + 1),u=n.w)→Bm u (w.heap.size + 2) (own2 m)):=(show ∀ u,_ from R.holes)
    have HBU:Hid (w.heap.size + 1 < U0.heap.size):=(show _ < _ by have:=R.z;omega)
    refine wp_region_R [_,_,_,_,_,_,_,_] [_] _ 2 3 79 5 (w.heap.size + 1) (w.heap.size + 2) (own2 m) _ (by kernel_rfl) (by kernel_rfl) (by kernel_rfl) rfl rfl rfl (by decide) rfl rfl (by kernel_rfl) rfl rfl rfl rfl (show 79 < 349 by decide) R.t1 R.b2 (by have:=R.z;omega) (by omega) ?_
    dsimp only [List.cons_append,List.nil_append,repOp]
    repeat (first
      | (go_big_quiet_want;refine quiet_R (.tmp 5) rfl (w.heap.size + 2) (own2 m) rfl HO.out ?_;go_big_quiet_on;simp only [Act.put,List.setIfInBounds_toArray,List.set_cons_succ,List.set_cons_zero])
      | go_big_quiet_step (first | fail))
    refine wpQuiet_nil ?_
    intro w' hw'
    obtain ⟨B,H⟩:=gh_end (own2 m) R.t1 hw'
    generalize sM w' (w.heap.size + 1) (own2 m)=V2 at *
    have HE:Hid (Below w.heap.size w V2):=(show Below _ _ _ from R.done H)
    clear hw' HO HBU H R hc
    go_wp2_with fail
    refine bodyPost_ret (resSMb (b:=w.heap.size + 1) (m:=own2 m) rfl rfl B) rfl ?_
    exact ⟨rfl,HE.out⟩
end Go.Proofs.YtlcbfdiohcbpbaaGreatDoor

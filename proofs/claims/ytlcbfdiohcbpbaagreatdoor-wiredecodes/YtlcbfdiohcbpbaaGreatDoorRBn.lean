import Derived.Test.YtlcbfdiohcbpbaaGreatDoorRBodyP
namespace Go.Proofs.YtlcbfdiohcbpbaaGreatDoor
set_option maxRecDepth 20000
set_option maxHeartbeats 16000000
open Go.ChangeShapes Go.WideShapes Go.ChangeAt Go.RowKit
set_option linter.unusedVariables false
set_option linter.unusedSimpArgs false
theorem rbn (m:Ms) (w:World) (hk:(m.kind == 0)=true∨((m.kind == 0)=false∧(m.kind == 20)=true)∨((m.kind == 0)=false∧(m.kind == 20)=false∧(m.kind == 21)=true)) :
    Calls Tryz.prog 19 #[msV m] w fun e w'=>e=.returned (.tuple #[.string (⟨#[]⟩),msV (own0 m),.bool true])∧Below w.heap.size w w':=by
  obtain ⟨W1,hW1,s1,f0,f1,hY,HV⟩:=rb_set m w
  rcases hk with k0 | ⟨k0,k20⟩ | ⟨k0,k20,k21⟩
  all_goals
    go_enter Tryz.func19,Tryz.ntmps19
    go_wp2_with (first | (refine build_R rfl (.tmp 24) (.tmp 26) rfl m.kind m.xid rfl rfl ?_) | (refine store_R rfl (.tmp 5) (.tmp 27) rfl (w.heap.size + 2) (own0 m) rfl rfl hY ?_;intro V bV tV oV;have R:=HV.out V bV tV oV;have r0:=R.m 0 _ rfl;clear bV tV oV HV hY hW1 f0 f1 s1))
    clear r0
    have HO:Hid (∀ u,(∃ n:GhT V (w.heap.size + 1),u=n.w)→Bm u (w.heap.size + 2) (own0 m)):=(show ∀ u,_ from R.holes)
    have HBU:Hid (w.heap.size + 1 < V.heap.size):=(show _ < _ by have:=R.z;omega)
    refine wp_region_R [_,_] [_] _ 0 3 34 5 (w.heap.size + 1) (w.heap.size + 2) (own0 m) _ (by kernel_rfl) (by kernel_rfl) (by kernel_rfl) rfl rfl rfl (by decide) rfl rfl (by kernel_rfl) rfl rfl rfl rfl (show 34 < 349 by decide) R.t1 R.b2 (by have:=R.z;omega) (by omega) ?_
    dsimp only [List.cons_append,List.nil_append,repOp]
    repeat (first
      | (go_big_quiet_want;refine quiet_R (.tmp 5) rfl (w.heap.size + 2) (own0 m) rfl HO.out ?_;go_big_quiet_on;simp only [Act.put,List.setIfInBounds_toArray,List.set_cons_succ,List.set_cons_zero])
      | go_big_quiet_step (first | fail))
    refine wpQuiet_nil ?_
    intro w' hw'
    obtain ⟨B,H⟩:=gh_end (own0 m) R.t1 hw'
    generalize sM w' (w.heap.size + 1) (own0 m)=V2 at *
    have HE:Hid (Below w.heap.size w V2):=(show Below _ _ _ from R.done H)
    clear hw' HO HBU H R
    go_wp2_with fail
    refine bodyPost_ret (resSMb (b:=w.heap.size + 1) (m:=own0 m) rfl rfl B) rfl ?_
    exact ⟨rfl,HE.out⟩
theorem rbz (m:Ms) (w:World) (k0:(m.kind == 0)=false) (k20:(m.kind == 20)=false) (k21:(m.kind == 21)=false) (k1:(m.kind == 1)=false) (k2:(m.kind == 2)=false) (k3:(m.kind == 3)=false) (k12:(m.kind == 12)=false) (k13:(m.kind == 13)=false) (k14:(m.kind == 14)=false) (k15:(m.kind == 15)=false) (k29:(m.kind == 29)=false) :
    Calls Tryz.prog 19 #[msV m] w fun e w'=>e=.returned (.tuple #[.string (⟨#[]⟩),msV (own0 m),.bool false])∧Below w.heap.size w w':=by
  obtain ⟨W1,hW1,s1,f0,f1,hY,HV⟩:=rb_set m w
  go_enter Tryz.func19,Tryz.ntmps19
  go_wp2_with (first | (refine build_R rfl (.tmp 24) (.tmp 26) rfl m.kind m.xid rfl rfl ?_) | (refine store_R rfl (.tmp 5) (.tmp 27) rfl (w.heap.size + 2) (own0 m) rfl rfl hY ?_;intro V bV tV oV;have R:=HV.out V bV tV oV;have r0:=R.m 0 _ rfl;clear bV tV oV HV hY hW1 f0 f1 s1))
  clear r0
  have HO:Hid (∀ u,(∃ n:GhT V (w.heap.size + 1),u=n.w)→Bm u (w.heap.size + 2) (own0 m)):=(show ∀ u,_ from R.holes)
  have HBU:Hid (w.heap.size + 1 < V.heap.size):=(show _ < _ by have:=R.z;omega)
  refine wp_region_R [_,_] [_] _ 0 3 348 5 (w.heap.size + 1) (w.heap.size + 2) (own0 m) _ (by kernel_rfl) (by kernel_rfl) (by kernel_rfl) rfl rfl rfl (by decide) rfl rfl (by kernel_rfl) rfl rfl rfl rfl (show 348 < 349 by decide) R.t1 R.b2 (by have:=R.z;omega) (by omega) ?_
  dsimp only [List.cons_append,List.nil_append,repOp]
  repeat (first
    | (go_big_quiet_want;refine quiet_R (.tmp 5) rfl (w.heap.size + 2) (own0 m) rfl HO.out ?_;go_big_quiet_on;simp only [Act.put,List.setIfInBounds_toArray,List.set_cons_succ,List.set_cons_zero])
    | go_big_quiet_step (first | fail))
  refine wpQuiet_nil ?_
  intro w' hw'
  obtain ⟨B,H⟩:=gh_end (own0 m) R.t1 hw'
  generalize sM w' (w.heap.size + 1) (own0 m)=V2 at *
  have HE:Hid (Below w.heap.size w V2):=(show Below _ _ _ from R.done H)
  clear hw' HO HBU H R
  go_wp2_with fail
  refine bodyPost_ret (resSMb (b:=w.heap.size + 1) (m:=own0 m) rfl rfl B) rfl ?_
  exact ⟨rfl,HE.out⟩
end Go.Proofs.YtlcbfdiohcbpbaaGreatDoor

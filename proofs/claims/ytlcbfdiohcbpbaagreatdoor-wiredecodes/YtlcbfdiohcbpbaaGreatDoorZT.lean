import Derived.Test.YtlcbfdiohcbpbaaGreatDoorZW
import Derived.Deep.Quiet
import Derived.Tactics
import Derived.BigFrame
namespace Go.Proofs.YtlcbfdiohcbpbaaGreatDoor
section
variable {P:Program} {C:World→Prop} {l1 l2:List Oper} {os:Oper}
def repOp (o:Oper):Oper:={ dst:=o.dst,op:=.assign (.const undef),type:=o.type,pos:=o.pos,after:=o.after,guard:=o.guard }
def preB (l:List Oper):Bool:=(List.range l.length).all fun i=>match l[i]? with
 | some o=>o.after.all fun e=>!Region.binds .any e || decide (e.on < i)
 | none=>true
def plainOp (o:Oper):Bool:=match o.op with
 | .move _=>true
 | .assign _=>true
 | .pick _ _ _=>true
 | .load _ _=>true
 | .fieldAddr _ _ _=>true
 | .binOp _ _ _ _ _=>true
 | .unOp _ _ _=>true
 | .call c=>(match c.callee with | .builtin .len=>true | _=>false)
 | _=>false
def reachB (l:List Oper):Nat→Nat→Nat→Bool
  | 0,_,_=>false
  | f + 1,i,j=>match l[i]? with
    | some o=>o.after.any fun e=>Region.binds .any e && (e.on == j || reachB l f e.on j)
    | none=>false
def lateB (l:List Oper) (s r x y z:Nat):Bool:=(List.range l.length).all fun j=>match l[j]? with
 | some o=>(j == s || plainOp o || reachB l l.length s j) && decide (o.dst≠some x) && decide (o.dst≠some z) && (j == r || decide (o.dst≠some y))
 | none=>true
theorem preB_spec {l:List Oper} (h:preB l=true) {i:Nat} {o:Oper} (ho:l[i]? = some o):∀ e ∈ o.after,Region.binds .any e=true→e.on < i:=by
 unfold preB at h
 rw [List.all_eq_true] at h
 have hi:i < l.length:=(List.getElem?_eq_some_iff.1 ho).1
 have:=h i (List.mem_range.2 hi)
 simp only [ho] at this
 intro e he hb
 have:=(Array.all_eq_true_iff_forall_mem.1 this) e he
 simpa [hb] using this
structure Late (l:List Oper) (s r x y z j:Nat) (o:Oper):Prop where
 a:j=s∨plainOp o=true∨reachB l l.length s j=true
 x:o.dst≠some x
 z:o.dst≠some z
 y:j=r∨o.dst≠some y
theorem lateB_spec {l:List Oper} {s r x y z:Nat} (h:lateB l s r x y z=true) {j:Nat} {o:Oper} (ho:l[j]? = some o):Late l s r x y z j o:=by
 unfold lateB at h
 rw [List.all_eq_true] at h
 have hj:j < l.length:=(List.getElem?_eq_some_iff.1 ho).1
 have:=h j (List.mem_range.2 hj)
 simp only [ho,Bool.and_eq_true,Bool.or_eq_true,beq_iff_eq,decide_eq_true_eq] at this
 obtain ⟨⟨⟨h1,h2⟩,h3⟩,h4⟩:=this
 exact ⟨by rcases h1 with (h | h) | h;exact .inl h;exact .inr (.inl h);exact .inr (.inr h),h2,h3,h4⟩
theorem value_of {α:Type} {s:Sem α} {g:α→Value} {n:Next} {w w':World} (h:(do pure (Next.value (g (← s))):Sem Next).run P w=.ok n w'):∃ u,n=.value u:=by
 simp only [Sem.run_bind,Sem.run_pure] at h
 cases hs:s.run P w with
 | ok v w1=>rw [hs] at h;simp only [Result.andThen_ok] at h;cases h;exact ⟨g v,rfl⟩
 | halt x w1=>rw [hs] at h;cases h
theorem plain_value {o:Oper} {ρ:Operand→Value} {n:Next} {w w':World} (hp:plainOp o=true) (h:(execOp ρ o).run P w=.ok n w'):∃ u,n=.value u:=by
  unfold plainOp at hp
  obtain ⟨dst,op,ty,pos,after,guard⟩:=o
  cases op <;> simp only at hp <;> try (exact absurd hp (by decide))
  case call c =>
    obtain ⟨callee,args,ats⟩:=c
    cases callee with
    | builtin b =>
      cases b <;> simp only at hp <;> try (exact absurd hp (by decide))
      rw [BigFrame.execOp_builtin,BigFrame.builtin_len] at h
      exact value_of (g:=id) h
    | invoke _ _=>cases hp
    | value _=>cases hp
  case move x=>simp only [execOp,Sem.run_pure] at h;cases h;exact ⟨_,rfl⟩
  case assign x=>simp only [execOp,Sem.run_pure] at h;cases h;exact ⟨_,rfl⟩
  case pick c a b=>exact value_of (s:=asBool (ρ c)) (g:=fun t=>if t then ρ a else ρ b) h
  all_goals exact value_of (g:=id) h
theorem getD_of {L:Array Bool} {i:Nat} {b d:Bool} (h:L[i]? = some b):L.getD i d=b:=by
 rw [Array.getD_eq_getD_getElem?,h];rfl
theorem bool_at {L:Array Bool} {i:Nat} (h:i < L.size):L[i]? = some true∨L[i]? = some false:=by
 rw [Array.getElem?_eq_getElem h]
 cases L[i] <;> simp
theorem true_of {L:Array Bool} {i:Nat} (h:L.getD i false=true):L[i]? = some true:=by
 rw [Array.getD_eq_getD_getElem?] at h
 cases hc:L[i]? with
 | none=>rw [hc] at h;cases h
 | some b=>rw [hc] at h;simp at h;rw [h]
theorem ready_some {l:List Oper} (hp:preB l=true) {L:Array Bool} (hs:L.size=l.length):∀ i,i < l.length→L[i]? = some false→Region.ready .any l.toArray L≠[]:=by
  intro i
  induction i using Nat.strongRecOn with
  | ind i ih =>
    intro hi hl hr
    have ho:l[i]? = some l[i]:=List.getElem?_eq_getElem hi
    have h1:=preB_spec hp ho
    by_cases hall:∀ e ∈ l[i].after,Region.binds .any e=true→L.getD e.on false=true
    · have:i ∈ Region.ready .any l.toArray L:=mem_ready.2 ⟨getD_of hl,l[i],by simp,hall⟩
      rw [hr] at this
      cases this
    · simp only [Classical.not_forall] at hall
      obtain ⟨e,he,hb,hn⟩:=hall
      have hlt:=h1 e he hb
      rcases bool_at (L:=L) (i:=e.on) (by omega) with h | h
      · exact hn (getD_of h)
      · exact ih e.on hlt (by omega) h hr
def Shutd (l:List Oper) (L:Array Bool):Prop:=∀ (j:Nat) (o:Oper),L[j]? = some true→l[j]? = some o→∀ e ∈ o.after,Region.binds .any e=true→L[e.on]? = some true
theorem Shutd.reach {l:List Oper} {L:Array Bool} (h:Shutd l L):∀ (f i j:Nat),reachB l f i j=true→L[i]? = some true→L[j]? = some true
  | 0,_,_,hr,_=>by cases hr
  | f + 1,i,j,hr,hi=>by
    unfold reachB at hr
    cases ho:l[i]? with
    | none=>rw [ho] at hr;cases hr
    | some o =>
      simp only [ho] at hr
      obtain ⟨e,he,hb⟩:=Array.any_eq_true'.1 hr
      simp only [Bool.and_eq_true,Bool.or_eq_true,beq_iff_eq] at hb
      have:=h i o hi ho e he hb.1
      rcases hb.2 with h2 | h2
      · rw [← h2];exact this
      · exact h.reach f e.on j h2 this
theorem set_at {L:Array Bool} {i j:Nat}:(L.setIfInBounds i true)[j]? = some true↔L[j]? = some true∨(i=j∧i < L.size):=by
 rw [Array.getElem?_setIfInBounds]
 by_cases e:i=j
 ·subst e
  by_cases hb:i < L.size
  ·simp [hb]
  ·simp [hb]
 ·simp [e]
theorem Shutd.set {l:List Oper} {L:Array Bool} (h:Shutd l L) {i:Nat} (hi:i ∈ Region.ready .any l.toArray L):Shutd l (L.setIfInBounds i true):=by
 obtain ⟨h0,o,ho,hall⟩:=mem_ready.1 hi
 intro j o' hj ho' e he hb
 rw [set_at] at hj ⊢
 refine .inl ?_
 rcases hj with hj | ⟨rfl,_⟩
 ·exact h j o' hj ho' e he hb
 ·have:o'=o:=by simpa using (show some o'=some o from by rw [← ho'];simpa using ho)
  subst this
  exact true_of (hall e he hb)
theorem get_rep (i:Nat):(l1 ++ repOp os :: l2)[i]? = if i=l1.length then some (repOp os) else (l1 ++ os :: l2)[i]?:=by
 by_cases h:i=l1.length
 ·subst h;simp
 ·rw [if_neg h,List.getElem?_append,List.getElem?_append]
  split
  ·rfl
  ·obtain ⟨d,hd⟩:∃ d,i - l1.length=d + 1:=⟨i - l1.length - 1,by omega⟩
   rw [hd];rfl
theorem ready_rep (L:Array Bool) (j:Nat):j ∈ Region.ready .any (l1 ++ repOp os :: l2).toArray L↔j ∈ Region.ready .any (l1 ++ os :: l2).toArray L:=by
 rw [mem_ready,mem_ready]
 by_cases h:j=l1.length
 ·subst h
  simp [repOp]
 ·have:(l1 ++ repOp os :: l2).toArray[j]? = (l1 ++ os :: l2).toArray[j]?:=by
   have:=get_rep (l1:=l1) (l2:=l2) (os:=os) j
   rw [if_neg h] at this
   simpa using this
  rw [this]
theorem wanted_rep (o:Oper) (t:Array Value):Region.wanted o (yielded (l1 ++ repOp os :: l2).toArray t)=Region.wanted o (yielded (l1 ++ os :: l2).toArray t):=by
 have:yielded (l1 ++ repOp os :: l2).toArray t=yielded (l1 ++ os :: l2).toArray t:=by
  funext j
  unfold yielded
  have e:((l1 ++ repOp os :: l2).toArray[j]?).bind (·.dst)=((l1 ++ os :: l2).toArray[j]?).bind (·.dst):=by
   have:=get_rep (l1:=l1) (l2:=l2) (os:=os) j
   by_cases h:j=l1.length
   ·subst h;simp [repOp]
   ·rw [if_neg h] at this
    simp only [List.getElem?_toArray,this]
  rw [e]
 rw [this]
structure Slots (x y z r:Nat) (vx vy vz:Value) (L:Array Bool) (a:Act):Prop where
 hx:a.eval (.tmp x)=vx
 hz:a.eval (.tmp z)=vz
 hy:L[r]? = some true→a.eval (.tmp y)=vy
 hn:y < a.tmps.size
theorem put_size (a:Act) (d:Option Tmp) (v:Value):(a.put d v).tmps.size=a.tmps.size:=by
 cases d <;> simp [Act.put]
theorem eval_same {a:Act} {y:Nat} {v:Value} (h:y < a.tmps.size):(a.put (some y) v).eval (.tmp y)=v:=by
 simp [Act.put,Act.eval,h]
theorem Slots.put {x y z r:Nat} {vx vy vz:Value} {L:Array Bool} {a:Act} {l:List Oper} {s i:Nat} {o:Oper} (h:Slots x y z r vx vy vz L a) (hl:Late l s r x y z i o) (v:Value) (hv:i=r→o.dst=some y∧v=vy):Slots x y z r vx vy vz (L.setIfInBounds i true) (a.put o.dst v):=by
 have ne:∀ t,o.dst≠some t→(a.put o.dst v).eval (.tmp t)=a.eval (.tmp t):=fun t ht=>Act.eval_put fun d hd e=>by cases e;exact ht hd
 refine ⟨(ne x hl.x).trans h.hx,(ne z hl.z).trans h.hz,fun hr => ?_,by rw [put_size];exact h.hn⟩
 by_cases hir:i=r
 ·obtain ⟨h1,h2⟩:=hv hir
  rw [h1,h2]
  exact eval_same h.hn
 ·rcases hl.y with hy | hy
  ·exact absurd hy hir
  ·rw [ne y hy]
   refine h.hy ?_
   rw [set_at] at hr
   rcases hr with hr | ⟨e,_⟩
   ·exact hr
   ·exact absurd e hir
variable {Q:Exit→Act→World→Prop} {f:World→World}
theorem any_after {r x y z:Nat} (hl:lateB (l1 ++ os :: l2) l1.length r x y z=true) (hf:∀ w,C w→C (f w)):∀ (fu:Nat) (L:Array Bool) (a:Act) (w:World),Shutd (l1 ++ os :: l2) L→L[l1.length]? = some true→C w →
    wpAnyQ P .any (l1 ++ repOp os :: l2).toArray C (fun a'=>∀ w',C w'→Q .normal a' (f w')) fu L a→wpAny P .any (l1 ++ os :: l2).toArray Q fu L a (f w):=by
  intro fu
  induction fu with
  | zero =>
    intro L a w _ _ hC h
    refine ⟨?_,h.2 w hC⟩
    rw [List.eq_nil_iff_forall_not_mem]
    intro j hj
    have:=(ready_rep L j).2 hj
    rw [h.1] at this
    cases this
  | succ fu ih =>
    intro L a w hs ht hC h
    refine ⟨fun hn=>h.1 ?_ w hC,fun i hi => ?_⟩
    · rw [List.eq_nil_iff_forall_not_mem]
      intro j hj
      have:=(ready_rep L j).1 hj
      rw [hn] at this
      cases this
    · obtain ⟨h0,o,ho,hall⟩:=mem_ready.1 hi
      have ho':(l1 ++ os :: l2)[i]? = some o:=by simpa using ho
      have hne:i≠l1.length:=fun e=>by rw [e,getD_of ht] at h0;cases h0
      have hq:=h.2 i ((ready_rep L i).2 hi)
      have hor:(l1 ++ repOp os :: l2).toArray[i]? = some o:=by
        have:=get_rep (l1:=l1) (l2:=l2) (os:=os) i
        rw [if_neg hne,ho'] at this
        simpa using this
      unfold qOp at hq
      simp only [hor] at hq
      unfold wpOp
      simp only [ho]
      rw [wanted_rep] at hq
      have hs':=hs.set hi
      have ht':(L.setIfInBounds i true)[l1.length]? = some true:=set_at.2 (.inl ht)
      split
      · next hw =>
        rw [if_pos hw] at hq
        refine .inl ?_
        have hpl:plainOp o=true:=by
          rcases (lateB_spec hl ho').a with e | e | e
          · exact absurd e hne
          · exact e
          · have:=hs.reach _ _ _ e ht
            rw [getD_of this] at h0
            cases h0
        obtain ⟨v,h1,h2⟩:=hq
        have h3:=h1 (f w) (hf w hC)
        unfold Oper.quietAt at h3
        unfold Oper.wp
        cases hr:(execOp a.eval o).run P (f w) with
        | halt e w'=>rw [hr] at h3;simp only [Oper.quietUpon] at h3
        | ok n w' =>
          obtain ⟨u,rfl⟩:=plain_value hpl hr
          rw [hr] at h3
          simp only [Oper.quietUpon] at h3
          obtain ⟨e1,e2⟩:=h3
          simp only [Oper.upon]
          rw [e1,e2]
          exact ih _ _ w hs' ht' hC h2
      · next hw =>
        rw [if_neg hw] at hq
        exact ih _ _ w hs' ht' hC hq
theorem any_ahead {r x y z:Nat} {vx vy vz:Value} {or_:Oper} (hp:preB (l1 ++ os :: l2)=true) (hl:lateB (l1 ++ os :: l2) l1.length r x y z=true) (hf:∀ w,C w→C (f w))
    (hg:os.guard=none) (hd:os.dst=none) (hst:∀ (a:Act) w,C w→a.eval (.tmp x)=vx→a.eval (.tmp y)=vy→(execOp a.eval os).run P w=.ok .skip (f w))
    (hor:(l1 ++ os :: l2)[r]? = some or_) (hrs:r≠l1.length) (hrg:or_.guard=none) (hrd:or_.dst=some y) (hld:∀ (a:Act) w,C w→a.eval (.tmp z)=vz→(execOp a.eval or_).run P w=.ok (.value vy) w)
    (hse:∃ e ∈ os.after,Region.binds .any e=true∧e.on=r):∀ (fu:Nat) (L:Array Bool) (a:Act) (w:World),L.size=(l1 ++ os :: l2).length→Shutd (l1 ++ os :: l2) L→L[l1.length]? = some false→C w→Slots x y z r vx vy vz L a →
    wpAnyQ P .any (l1 ++ repOp os :: l2).toArray C (fun a'=>∀ w',C w'→Q .normal a' (f w')) fu L a→wpAny P .any (l1 ++ os :: l2).toArray Q fu L a w:=by
  intro fu
  have dead:∀ L:Array Bool,L.size=(l1 ++ os :: l2).length→L[l1.length]? = some false→Region.ready .any (l1 ++ repOp os :: l2).toArray L≠[]:=fun L hz hu hn=>by
    have:=ready_some hp hz l1.length (by simp) hu
    refine this ?_
    rw [List.eq_nil_iff_forall_not_mem]
    intro j hj
    have:=(ready_rep L j).2 hj
    rw [hn] at this
    cases this
  induction fu with
  | zero =>
    intro L a w hz _ hu _ _ h
    exact absurd h.1 (dead L hz hu)
  | succ fu ih =>
    intro L a w hz hs hu hC hS h
    refine ⟨fun hn=>absurd hn (fun hn=>ready_some hp hz l1.length (by simp) hu hn),fun i hi => ?_⟩
    obtain ⟨h0,o,ho,hall⟩:=mem_ready.1 hi
    have ho':(l1 ++ os :: l2)[i]? = some o:=by simpa using ho
    have hq:=h.2 i ((ready_rep L i).2 hi)
    have hs':=hs.set hi
    have hi':i < L.size:=by rw [hz];exact (List.getElem?_eq_some_iff.1 ho').1
    unfold qOp at hq
    unfold wpOp
    simp only [ho]
    by_cases hne:i=l1.length
    · subst hne
      have eo:o=os:=by simpa using ho'.symm
      subst eo
      have hw:Region.wanted o (yielded (l1 ++ o :: l2).toArray a.tmps)=true:=by simp [Region.wanted,hg]
      rw [if_pos hw]
      refine .inl ?_
      have hor':(l1 ++ repOp o :: l2).toArray[l1.length]? = some (repOp o):=by simp
      simp only [hor'] at hq
      have hw':Region.wanted (repOp o) (yielded (l1 ++ repOp o :: l2).toArray a.tmps)=true:=by simp [Region.wanted,repOp,hg]
      rw [if_pos hw'] at hq
      obtain ⟨v,_,h2⟩:=hq
      have e2:a.put (repOp o).dst v=a:=by simp [repOp,hd,Act.put]
      rw [e2] at h2
      obtain ⟨e,he,hb,hon⟩:=hse
      have hr:=true_of (hall e he hb)
      rw [hon] at hr
      unfold Oper.wp
      rw [hst a w hC hS.hx (hS.hy hr)]
      have e3:a.put o.dst undef=a:=by simp [hd,Act.put]
      simp only [Oper.upon,e3]
      exact any_after hl hf fu _ a w hs' (set_at.2 (.inr ⟨rfl,hi'⟩)) hC h2
    · have hor2:(l1 ++ repOp os :: l2).toArray[i]? = some o:=by
        have:=get_rep (l1:=l1) (l2:=l2) (os:=os) i
        rw [if_neg hne,ho'] at this
        simpa using this
      simp only [hor2] at hq
      rw [wanted_rep] at hq
      have hu':(L.setIfInBounds i true)[l1.length]? = some false:=by rw [Array.getElem?_setIfInBounds,if_neg hne];exact hu
      have hz':(L.setIfInBounds i true).size=(l1 ++ os :: l2).length:=by simpa using hz
      have late:=lateB_spec hl ho'
      split
      · next hw =>
        rw [if_pos hw] at hq
        refine .inl ?_
        obtain ⟨v,h1,h2⟩:=hq
        have hv:i=r→o.dst=some y∧v=vy:=fun e=>by
          subst e
          have eo:o=or_:=by rw [ho'] at hor;simpa using hor
          subst eo
          have h3:=h1 w hC
          unfold Oper.quietAt at h3
          rw [hld a w hC hS.hz] at h3
          exact ⟨hrd,h3.2.symm⟩
        exact Oper.wp_of_quiet (K:=fun a'=>a'=a.put o.dst v) hC (fun a' w' hw' ha=>by subst ha;exact ih _ _ w' hz' hs' hu' hw' (hS.put late v hv) h2) ⟨v,h1,rfl⟩
      · next hw =>
        rw [if_neg hw] at hq
        have hv:i=r→o.dst=some y∧undef=vy:=fun e=>by
          subst e
          have eo:o=or_:=by rw [ho'] at hor;simpa using hor
          subst eo
          exact absurd (by simp [Region.wanted,hrg]) hw
        exact ih _ _ w hz' hs' hu' hC (hS.put late undef hv) hq
theorem wp_region_store {id:Nat} {a:Act} {w:World} (l1 l2:List Oper) (os:Oper) (r x y z:Nat) (vx vy vz:Value) (or_:Oper) (hm:P.follows .mixedOrders=true) (hB:Region.lexB .any (l1 ++ repOp os :: l2).toArray=true)
    (hp:preB (l1 ++ os :: l2)=true) (hl:lateB (l1 ++ os :: l2) l1.length r x y z=true)
    (hg:os.guard=none) (hd:os.dst=none) (hor:(l1 ++ os :: l2)[r]? = some or_) (hrs:r≠l1.length) (hrg:or_.guard=none) (hrd:or_.dst=some y) (hse:(os.after.any fun e=>Region.binds .any e && e.on == r)=true)
    (f:World→World) (hf:∀ w,C w→C (f w)) (hst:∀ (a:Act) w,C w→a.eval (.tmp x)=vx→a.eval (.tmp y)=vy→(execOp a.eval os).run P w=.ok .skip (f w))
    (hld:∀ (a:Act) w,C w→a.eval (.tmp z)=vz→(execOp a.eval or_).run P w=.ok (.value vy) w)
    (hx:a.eval (.tmp x)=vx) (hz:a.eval (.tmp z)=vz) (hy:y < a.tmps.size)
    (hC:C { w with drawn:=w.drawn + 1 }) (h:wpQuiet P (l1 ++ repOp os :: l2).toArray C (fun a'=>∀ w',C w'→Q .normal a' (f w')) (l1 ++ repOp os :: l2) a):(Code.region id (l1 ++ os :: l2).toArray true).wp P Q a w:=by
  simp only [Region.lexB,Bool.and_eq_true] at hB
  have hz1:(l1 ++ repOp os :: l2).toArray.size=(l1 ++ os :: l2).toArray.size:=by simp
  have hq:=wpAnyQ_lex (C:=C) (md:=.any) hB.1 (l1 ++ repOp os :: l2) 0 (Array.replicate (l1 ++ os :: l2).toArray.size false) a (by simp) (by have:=hB.2;rw [hz1] at this;simpa using this) h
  have hu:∀ i,i < (l1 ++ os :: l2).toArray.size→(Array.replicate (l1 ++ os :: l2).toArray.size false)[i]? = some false:=fun i hi=>by rw [Array.getElem?_replicate,if_pos hi]
  have nt:∀ i,(Array.replicate (l1 ++ os :: l2).toArray.size false)[i]?≠some true:=fun i e=>by
    rw [Array.getElem?_replicate] at e
    split at e <;> cases e
  obtain ⟨e,he,hb⟩:=Array.any_eq_true'.1 hse
  simp only [Bool.and_eq_true,beq_iff_eq] at hb
  refine wp_region_any hm ?_
  refine any_ahead hp hl hf hg hd hst hor hrs hrg hrd hld ⟨e,he,hb.1,hb.2⟩ _ _ a _ (by simp) (fun j o hj=>absurd hj (nt j)) (hu _ (by simp)) hC ⟨hx,hz,fun hr=>absurd hr (nt r),hy⟩ ?_
  have e:(l1 ++ os :: l2).toArray.size=(l1 ++ repOp os :: l2).length:=by simp
  rw [e] at hq ⊢
  exact hq
end
open Go.ChangeShapes Go.WideShapes Go.ChangeAt Go.RowKit
theorem run_M {op:Oper} {ρ:Operand→Value} (x:Operand) (ho:op.op=.load 33 x) (b:Nat) (m:Ms) (hx:ρ x=.pointer (some ⟨b,0,none⟩)) (w:World) (hB:Bm w b m):(execOp ρ op).run Tryz.prog w=.ok (.value (msV m)) w:=by
 unfold execOp
 simp only [ho,hx,Instr.loadAt,Instr.sureAddr,Sem.run_bind,Sem.run_pure,Result.andThen_ok,loadM w b m hB]
theorem run_R {op:Oper} {ρ:Operand→Value} (x:Operand) (ho:op.op=.load 42 x) (b:Nat) (m:Ms) (hx:ρ x=.pointer (some ⟨b,0,none⟩)) (w:World) (hB:Bm w b m):(execOp ρ op).run Tryz.prog w=.ok (.value (msV m)) w:=by
 unfold execOp
 simp only [ho,hx,Instr.loadAt,Instr.sureAddr,Sem.run_bind,Sem.run_pure,Result.andThen_ok,loadR w b m hB]
theorem quiet_M {op:Oper} {a:Go.Act} {C:World→Prop} {K:Go.Act→Prop} (x:Operand) (ho:op.op=.load 33 x)
    (b:Nat) (m:Ms) (hx:a.eval x=.pointer (some ⟨b,0,none⟩)) (hB:∀ w,C w→Bm w b m) (h:K (a.put op.dst (msV m))):op.quiet Tryz.prog a C K :=
  ⟨msV m,fun w hC=>by unfold Oper.quietAt;rw [run_M x ho b m hx w (hB w hC)];exact ⟨rfl,rfl⟩,h⟩
theorem quiet_R {op:Oper} {a:Go.Act} {C:World→Prop} {K:Go.Act→Prop} (x:Operand) (ho:op.op=.load 42 x)
    (b:Nat) (m:Ms) (hx:a.eval x=.pointer (some ⟨b,0,none⟩)) (hB:∀ w,C w→Bm w b m) (h:K (a.put op.dst (msV m))):op.quiet Tryz.prog a C K :=
  ⟨msV m,fun w hC=>by unfold Oper.quietAt;rw [run_R x ho b m hx w (hB w hC)];exact ⟨rfl,rfl⟩,h⟩
theorem Bm.all {W:World} {b:Nat} {m:Ms} (h:Bm W b m) (hb:b < W.heap.size):∀ w,(∃ n:GrT W,w=n.w)→Bm w b m:=fun w ⟨n,e⟩=>by subst e;exact h.gr hb n
theorem runS_R {op:Oper} {ρ:Operand→Value} (x y:Operand) (ho:op.op=.store 42 x y) (b:Nat) (m:Ms) (hx:ρ x=.pointer (some ⟨b,0,none⟩)) (hy:ρ y=msV m) (w:World) (ht:w.there b 0 26):(execOp ρ op).run Tryz.prog w=.ok .skip (sM w b m):=by
 unfold execOp
 simp only [ho,hx,hy,Instr.storeAt,Instr.sureAddr,Sem.run_bind,Sem.run_pure,Result.andThen_ok,run_storeVar_mid w b 0 42 (msC m) ht (hiR m) (oneM m)]
structure Hole (b:Nat) (w w':World):Prop where
 os:w'.os=w.os
 tape:w'.tape=w.tape
 output:w'.output=w.output
 size:w.heap.size≤w'.heap.size
 block:∀ k,k < w.heap.size→k≠b→w'.heap[k]? = w.heap[k]?
theorem Hole.refl (b:Nat) (w:World):Hole b w w:=⟨rfl,rfl,rfl,Nat.le_refl _,fun _ _ _=>rfl⟩
theorem Hole.only {b:Nat} {x y z:World} (h:Hole b x y) (g:Only b y z):Hole b x z :=
 ⟨g.os.trans h.os,g.tape.trans h.tape,g.output.trans h.output,by rw [g.size];exact h.size,fun k hk hb=>(g.block k hb).trans (h.block k hk hb)⟩
theorem Hole.grow {b:Nat} {x y z:World} (h:Hole b x y) (g:Below y.heap.size y z):Hole b x z :=
 ⟨g.os.trans h.os,g.tape.trans h.tape,g.output.trans h.output,Nat.le_trans h.size g.size,fun k hk hb=>(g.block k (Nat.lt_of_lt_of_le hk h.size)).trans (h.block k hk hb)⟩
theorem Hole.below {b k:Nat} {a w w':World} (h:Hole b w w') (g:Below k a w) (hb:k≤b) (hk:k≤w.heap.size):Below k a w' :=
 g.trans ⟨h.os,h.tape,h.output,h.size,fun j hj=>h.block j (by omega) (by omega)⟩
structure GhS (X:World) (b:Nat) where
 w:World
 h:Hole b X w
 t:X.there b 0 26→w.there b 0 26
abbrev GhT (X:World) (b:Nat):Type:=Option (GhS X b)
def GhT.w {X:World} {b:Nat}:GhT X b→World
 | none=>X
 | some g=>g.w
theorem GhT.h {X:World} {b:Nat}:(n:GhT X b)→Hole b X n.w
 | none=>Hole.refl b X
 | some g=>g.h
theorem GhT.t {X:World} {b:Nat}:(n:GhT X b)→X.there b 0 26→n.w.there b 0 26
 | none=>fun h=>h
 | some g=>g.t
theorem quiet_gh {P:Program} {f:FuncId} {args:Array Value} {X:World} {b:Nat} {n:GhT X b} {v:Value} (hb:b < X.heap.size)
    (h:Calls P f args n.w fun e w'=>e=.returned v∧Below n.w.heap.size n.w w'):Calls P f args n.w fun e w''=>e=.returned v∧∃ m:GhT X b,w''=m.w :=
  h.mono fun _ w' ⟨he,hm⟩=>⟨he,some ⟨w',n.h.grow hm,fun hX=>there_block (n.t hX) (hm.block b (Nat.lt_of_lt_of_le hb n.h.size))⟩,rfl⟩
theorem quiet_ghs {P:Program} {f:FuncId} {args:Array Value} {X:World} {b:Nat} {n:GhT X b} {v:Value}
    (h:Calls P f args n.w fun e w'=>e=.returned v∧w'=n.w):Calls P f args n.w fun e w''=>e=.returned v∧∃ m:GhT X b,w''=m.w :=
  h.mono fun _ _ ⟨he,hm⟩=>⟨he,n,hm⟩
theorem Bm.hole {X:World} {b c:Nat} {m:Ms} (h:Bm X c m) (hc:c < X.heap.size) (hbc:c≠b) (n:GhT X b):Bm n.w c m:=h.block (n.h.block c hc hbc)
theorem Bm.holes {X:World} {b c:Nat} {m:Ms} (h:Bm X c m) (hc:c < X.heap.size) (hbc:c≠b):∀ w,(∃ n:GhT X b,w=n.w)→Bm w c m:=fun w ⟨n,e⟩=>by subst e;exact h.hole hc hbc n
theorem wp_region_R {id:Nat} {Q:Exit→Act→World→Prop} {a:Act} {X:World} (l1 l2:List Oper) (os:Oper) (r x y z:Nat) (b c:Nat) (m:Ms) (or_:Oper) (hB:Region.lexB .any (l1 ++ repOp os :: l2).toArray=true)
    (hp:preB (l1 ++ os :: l2)=true) (hl:lateB (l1 ++ os :: l2) l1.length r x y z=true)
    (hg:os.guard=none) (hd:os.dst=none) (hor:(l1 ++ os :: l2)[r]? = some or_) (hrs:r≠l1.length) (hrg:or_.guard=none) (hrd:or_.dst=some y) (hse:(os.after.any fun e=>Region.binds .any e && e.on == r)=true)
    (hos:os.op=.store 42 (.tmp x) (.tmp y)) (hro:or_.op=.load 42 (.tmp z))
    (hx:a.eval (.tmp x)=.pointer (some ⟨b,0,none⟩)) (hz:a.eval (.tmp z)=.pointer (some ⟨c,0,none⟩)) (hy:y < a.tmps.size)
    (ht:X.there b 0 26) (hc:Bm X c m) (hcX:c < X.heap.size) (hbc:c≠b)
    (h:wpQuiet Tryz.prog (l1 ++ repOp os :: l2).toArray (fun w'=>∃ n:GhT X b,w'=n.w) (fun a'=>∀ w',(∃ n:GhT X b,w'=n.w)→Q .normal a' (sM w' b m)) (l1 ++ repOp os :: l2) a):(Code.region id (l1 ++ os :: l2).toArray true).wp Tryz.prog Q a X :=
  wp_region_store (C:=fun w'=>∃ n:GhT X b,w'=n.w) l1 l2 os r x y z _ (msV m) _ or_ (by kernel_rfl) hB hp hl hg hd hor hrs hrg hrd hse (fun w'=>sM w' b m)
    (fun w hw=>by
      obtain ⟨n,rfl⟩:=hw
      exact ⟨some ⟨sM n.w b m,n.h.only (only_sM _ _ _),fun hX=>World.there_setCells (n.t hX) b 0 _⟩,rfl⟩)
    (fun a w hw h1 h2=>by
      obtain ⟨n,rfl⟩:=hw
      exact runS_R (.tmp x) (.tmp y) hos b m h1 h2 _ (n.t ht))
    (fun a w hw h1=>run_R (.tmp z) hro c m h1 w (hc.holes hcX hbc w hw))
    hx hz hy ⟨some ⟨{ X with drawn:=X.drawn + 1 },⟨rfl,rfl,rfl,Nat.le_refl _,fun _ _ _=>rfl⟩,fun h=>h⟩,rfl⟩ h
theorem gh_end {X w':World} {b:Nat} (m:Ms) (ht:X.there b 0 26) (h:∃ n:GhT X b,w'=n.w):Bm (sM w' b m) b m∧Hole b X (sM w' b m):=by
 obtain ⟨n,rfl⟩:=h
 exact ⟨bm_set m (n.t ht),n.h.only (only_sM _ _ _)⟩
end Go.Proofs.YtlcbfdiohcbpbaaGreatDoor

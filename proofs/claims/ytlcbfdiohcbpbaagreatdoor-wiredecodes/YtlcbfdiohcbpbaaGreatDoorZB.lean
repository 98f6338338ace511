import Derived.Test.YtlcbfdiohcbpbaaGreatDoorZA1
import Derived.Test.YtlcbfdiohcbpbaaGreatDoorRows
import Derived.Test.YtlcbfdiohcbpbaaGreatDoorShelf
import Derived.WalkKit
import Derived.ProofKit
import Derived.OpenShut
import Derived.Handy
import Derived.BigQuiet
import Derived.Deep.RegionWith
import Derived.Laws.ResultCell
import Derived.Laws.BytesArg
import Derived.Laws.StructEq
import Derived.Laws.AppendOwn
import Derived.Laws.OwnMore
import Derived.Laws.DeepStrings4
namespace Go.Proofs.YtlcbfdiohcbpbaaGreatDoor.Mt
set_option maxHeartbeats 16000000
set_option maxRecDepth 20000
abbrev T:Type:=Int × Int × Int
structure TW (t:T):Prop where
 v0:0≤t.2.1
 v1:t.2.1 < 18446744073709551616
 m0:0≤t.2.2
 m1:t.2.2 < 18446744073709551616
abbrev TWs (l:List T):Prop:=∀ t ∈ l,TW t
theorem cls9 {f:Int} (h : ¬ (f < 1∨9 < f)):f=1∨f=2∨f=3∨f=4∨f=5∨f=6∨f=7∨f=8∨f=9:=by omega
def wdV (f:Int):Int:=if f=2 then 64 else if f=1∨f=5∨f=6 then 32 else if f=4∨f=8∨f=9 then 16 else if f=3 then 13 else if f=7 then 8 else 0
def grV (f:Int):Int:=if f=2 then 18446744073709551615 else if f=1∨f=5∨f=6 then 4294967295 else if f=4∨f=8∨f=9 then 65535 else if f=3 then 8191 else if f=7 then 255 else 0
theorem none_of {f:Int} (h:f < 1∨9 < f):(f == 1)=false∧(f == 2)=false∧(f == 3)=false∧(f == 4)=false∧(f == 5)=false∧(f == 6)=false∧(f == 7)=false∧(f == 8)=false∧(f == 9)=false:=by
 refine ⟨?_,?_,?_,?_,?_,?_,?_,?_,?_⟩ <;> (rw [beq_eq_false_iff_ne];omega)
theorem wdV_none {f:Int} (h:f < 1∨9 < f):wdV f=0:=by unfold wdV;repeat (rw [if_neg (by omega)])
theorem grV_none {f:Int} (h:f < 1∨9 < f):grV f=0:=by unfold grV;repeat (rw [if_neg (by omega)])
theorem grV_lt (f:Int):0≤grV f∧grV f < 18446744073709551616:=by unfold grV;(repeat' split) <;> omega
theorem and_gr (f a:Int) (hf : ¬ (f < 1∨9 < f)) (h0:0≤a) (h1:a < 18446744073709551616):bits .and .u64 a (grV f)=a % (grV f + 1):=by
 rcases cls9 hf with rfl | rfl | rfl | rfl | rfl | rfl | rfl | rfl | rfl
 ·exact and_u 32 (by decide) a h0 h1
 ·exact and_u 64 (by decide) a h0 h1
 ·exact and_u 13 (by decide) a h0 h1
 ·exact and_u 16 (by decide) a h0 h1
 ·exact and_u 32 (by decide) a h0 h1
 ·exact and_u 32 (by decide) a h0 h1
 ·exact and_u 8 (by decide) a h0 h1
 ·exact and_u 16 (by decide) a h0 h1
 ·exact and_u 16 (by decide) a h0 h1
theorem and_gr_iff (f a:Int) (hf : ¬ (f < 1∨9 < f)) (h0:0≤a) (h1:a < 18446744073709551616):bits .and .u64 a (grV f)=a↔a≤grV f:=by
 have:=(grV_lt f).1
 rw [and_gr f a hf h0 h1]
 constructor
 ·intro h
  have:=Int.emod_lt_of_pos a (show 0 < grV f + 1 by omega)
  omega
 ·intro h
  exact Int.emod_eq_of_lt h0 (by omega)
def fitB (t:T):Bool:=!(t.2.2 == 0) && decide (t.2.2≤grV t.1) && (bits .andNot .u64 t.2.1 t.2.2 == 0)
def hasT (l:List T) (t:T):Bool:=l.any fun u=>decide (u=t)
theorem hasT_iff (l:List T) (t:T):hasT l t=true↔t ∈ l:=by simp [hasT]
def standB (f:Int) (l:List T):Bool:=if 5≤f∧f≤7 then hasT l (4,2048,65535) else if f=8∨f=9 then hasT l (7,6,255) || hasT l (7,17,255) else true
def lastF:List T→Int
 | []=>0
 | [t]=>t.1
 | _ :: u :: r=>lastF (u :: r)
theorem lastF_snoc:∀ (l:List T) (t:T),lastF (l ++ [t])=t.1
  | [],_=>rfl
  | [_],_=>rfl
  | _ :: u :: r, t => by
    show lastF (u :: (r ++ [t]))=t.1
    exact lastF_snoc (u :: r) t
theorem lastF_get (l:List T) (k:Nat) (h:k + 1=l.length):lastF l=(l[k]'(by omega)).1:=by
 have hne:l≠[]:=by intro h0;subst h0;simp at h
 have e:=List.dropLast_concat_getLast hne
 have e2:=lastF_snoc l.dropLast (l.getLast hne)
 rw [e] at e2
 rw [e2,List.getLast_eq_getElem]
 congr 2
 omega
def behindE (t:T) (l:List T):Int:=if wdV t.1=0 then 20 else if (l≠[]∧t.1≤lastF l)∨fitB t=false∨standB t.1 l=false then 21 else 0
def rightGo:List T→List T→Int
 | _,[]=>0
 | l,t :: r=>if behindE t l=0 then rightGo (l ++ [t]) r else behindE t l
def rightE (l:List T):Int:=rightGo [] l
def wholeV (l:List T) (f:Int):Option Int:=(l.find? fun t=>t.1 == f && t.2.2 == grV f).map (·.2.1)
def rfitB (t:T):Bool:=!(t.2.2 == 0) && (bits .and .u64 t.2.2 (grV t.1) == t.2.2) && (bits .and .u64 t.2.1 t.2.2 == t.2.1)
def rstandB (f:Int) (l:List T):Bool:=if 5≤f∧f≤7 then decide (wholeV l 4=some 2048) else if 8≤f then decide (wholeV l 7=some 6∨wholeV l 7=some 17) else true
def rbehindE (t:T) (l:List T):Int:=if wdV t.1=0 then 20 else if (l≠[]∧t.1≤lastF l)∨rfitB t=false∨rstandB t.1 l=false then 21 else 0
def rrightGo:List T→List T→Int
 | _,[]=>0
 | l,t :: r=>if rbehindE t l=0 then rrightGo (l ++ [t]) r else rbehindE t l
abbrev Rises (l:List T):Prop:=l.Pairwise fun a b=>a.1 < b.1
theorem rises_last:∀ (l:List T),Rises l→∀ a ∈ l,a.1≤lastF l
  | [],_,a,h=>by cases h
  | [t],_,a,h=>by simp at h;subst h;exact Int.le_refl _
  | t :: u :: r, hr, a, h => by
    show a.1≤lastF (u :: r)
    rw [Rises,List.pairwise_cons] at hr
    rcases List.mem_cons.1 h with rfl | h
    · have h1 := hr.1 u (by simp)
      have h2:=rises_last (u :: r) hr.2 u (by simp)
      omega
    · exact rises_last (u :: r) hr.2 a h
theorem rises_snoc {l:List T} {t:T} (h:Rises l) (ht:l=[]∨lastF l < t.1):Rises (l ++ [t]):=by
 rw [Rises,List.pairwise_append]
 refine ⟨h,by simp,fun a ha b hb => ?_⟩
 simp at hb
 subst hb
 rcases ht with rfl | ht
 ·cases ha
 ·have:=rises_last l h a ha
  omega
theorem whole_has:∀ (l:List T),Rises l→∀ f v,(t:T)→t=(f,v,grV f)→(hasT l t=true↔wholeV l f=some v)
  | [],_,f,v,t,_=>by simp [hasT,wholeV]
  | a :: l, hr, f, v, t, ht => by
    rw [Rises,List.pairwise_cons] at hr
    have ih:=whole_has l hr.2 f v t ht
    by_cases ha:a.1=f∧a.2.2=grV f
    · have e : wholeV (a :: l) f = some a.2.1 := by simp [wholeV, ha.1, ha.2]
      rw [e,hasT_iff,List.mem_cons]
      constructor
      · rintro (h | h)
        · rw [ht] at h;rw [← h]
        · have := hr.1 t h
          rw [ht] at this
          have:=ha.1
          simp at *
          omega
      · intro h
        left
        rw [ht]
        obtain ⟨a1,a2,a3⟩:=a
        simp at h ha ⊢
        exact ⟨ha.1.symm,h.symm,ha.2.symm⟩
    · have e:wholeV (a :: l) f=wholeV l f:=by
        have:(a.1 == f && a.2.2 == grV f)=false:=by
          rw [Bool.and_eq_false_iff,beq_eq_false_iff_ne,beq_eq_false_iff_ne]
          by_cases h1:a.1=f
          · exact .inr fun h2=>ha ⟨h1,h2⟩
          · exact .inl h1
        simp [wholeV,this]
      rw [e,← ih,hasT_iff,hasT_iff,List.mem_cons]
      constructor
      · rintro (h | h)
        · exfalso
          apply ha
          rw [← h,ht]
          exact ⟨rfl,rfl⟩
        · exact h
      · exact .inr
theorem bool_iff {a b:Bool} (h:a=true↔b=true):a=b:=by cases a <;> cases b <;> simp_all
theorem rstand_eq (l:List T) (hr:Rises l) (f:Int) (hf : ¬ (f < 1∨9 < f)):rstandB f l=standB f l:=by
 unfold rstandB standB
 split
 ·apply bool_iff
  rw [whole_has l hr 4 2048 (4,2048,65535) rfl]
  simp
 ·by_cases h8:f=8∨f=9
  ·rw [if_pos h8,if_pos (by omega)]
   apply bool_iff
   rw [Bool.or_eq_true,whole_has l hr 7 6 (7,6,255) rfl,whole_has l hr 7 17 (7,17,255) rfl]
   simp
  ·rw [if_neg h8,if_neg (by omega)]
theorem rfit_eq (t:T) (hw:TW t) (hf : ¬ (t.1 < 1∨9 < t.1)):rfitB t=fitB t:=by
 obtain ⟨a,b,c,d⟩:=hw
 unfold rfitB fitB
 have h1:(bits .and .u64 t.2.2 (grV t.1) == t.2.2)=decide (t.2.2≤grV t.1):=by
  apply bool_iff
  rw [beq_iff_eq,decide_eq_true_iff,and_gr_iff t.1 t.2.2 hf c d]
 have h2:(bits .and .u64 t.2.1 t.2.2 == t.2.1)=(bits .andNot .u64 t.2.1 t.2.2 == 0):=by
  apply bool_iff
  rw [beq_iff_eq,beq_iff_eq,not_iff _ _ a b]
 rw [h1,h2]
theorem rbehind_eq (t:T) (l:List T) (hw:TW t) (hr:Rises l):rbehindE t l=behindE t l:=by
 unfold rbehindE behindE
 by_cases h:wdV t.1=0
 ·rw [if_pos h,if_pos h]
 ·rw [if_neg h,if_neg h]
  have hf : ¬ (t.1 < 1∨9 < t.1):=fun g=>h (wdV_none g)
  rw [rfit_eq t hw hf,rstand_eq l hr t.1 hf]
theorem behind_rises {t:T} {l:List T} (h:behindE t l=0) (hr:Rises l):Rises (l ++ [t]):=by
 apply rises_snoc hr
 unfold behindE at h
 by_cases h0:l=[]
 ·exact .inl h0
 ·right
  split at h
  ·cases h
  ·split at h
   ·cases h
   ·rename_i g
    by_cases hl:lastF l < t.1
    ·exact hl
    ·exact absurd (Or.inl ⟨h0,by omega⟩) g
theorem rright_eq:∀ (r l:List T),TWs r→Rises l→rrightGo l r=rightGo l r
  | [],_,_,_=>rfl
  | t :: r, l, hw, hr => by
    unfold rrightGo rightGo
    rw [rbehind_eq t l (hw t (by simp)) hr]
    by_cases h:behindE t l=0
    · rw [if_pos h, if_pos h]
      exact rright_eq r (l ++ [t]) (fun u hu=>hw u (by simp [hu])) (behind_rises h hr)
    · rw [if_neg h,if_neg h]
theorem right_cons {t:T} {l r:List T}:rightGo l (t :: r)=0↔behindE t l=0∧rightGo (l ++ [t]) r=0:=by
 rw [rightGo]
 constructor
 ·intro h
  split at h
  ·rename_i g;exact ⟨g,h⟩
  ·rename_i g;exact absurd h g
 ·rintro ⟨h,g⟩
  rw [if_pos h];exact g
structure Fit (t:T) (l:List T):Prop where
 fld : ¬ (t.1 < 1∨9 < t.1)
 up:l=[]∨lastF l < t.1
 fit:fitB t=true
 std:standB t.1 l=true
theorem fit_of {t:T} {l:List T} (h:behindE t l=0):Fit t l:=by
 unfold behindE at h
 split at h
 ·cases h
 ·rename_i g
  split at h
  ·cases h
  ·rename_i g2
   rw [not_or,not_or] at g2
   refine ⟨fun x=>g (wdV_none x),?_,by simpa using g2.2.1,by simpa using g2.2.2⟩
   by_cases h0:l=[]
   ·exact .inl h0
   ·right
    have:=g2.1
    by_cases hl:lastF l < t.1
    ·exact hl
    ·exact absurd ⟨h0,by omega⟩ this
theorem fit_num {t:T} {l:List T} (h:Fit t l) (hw:TW t):t.2.2≠0∧t.2.2≤grV t.1∧t.2.1≤t.2.2:=by
 have h1:=h.fit
 unfold fitB at h1
 simp only [Bool.and_eq_true,Bool.not_eq_true',decide_eq_true_eq,beq_eq_false_iff_ne,beq_iff_eq] at h1
 refine ⟨h1.1.1,h1.1.2,?_⟩
 exact le_of_and _ _ hw.m0 hw.m1 ((not_iff _ _ hw.v0 hw.v1).1 h1.2)
theorem short:∀ (l:List T) (c:Int),Rises l→(∀ a ∈ l,c < a.1∧a.1≤9)→l.length≤(9 - c).toNat
  | [],_,_,_=>by simp
  | a :: l, c, hr, h => by
    rw [Rises,List.pairwise_cons] at hr
    have h1:=h a (by simp)
    have:=short l a.1 hr.2 (fun b hb=>⟨hr.1 b hb,(h b (by simp [hb])).2⟩)
    rw [List.length_cons]
    omega
theorem right_rises:∀ (r l:List T),rightGo l r=0→Rises l→(∀ a ∈ l,0 < a.1∧a.1≤9)→Rises (l ++ r)∧∀ a ∈ l ++ r,0 < a.1∧a.1≤9
  | [],l,_,hr,h=>by rw [List.append_nil];exact ⟨hr,h⟩
  | t :: r, l, hg, hr, h => by
    obtain ⟨h1,h2⟩:=right_cons.1 hg
    have:=right_rises r (l ++ [t]) h2 (behind_rises h1 hr) (by
      intro a ha
      rcases List.mem_append.1 ha with ha | ha
      · exact h a ha
      · simp at ha
        subst ha
        have:=(fit_of h1).fld
        omega)
    simpa using this
theorem right_short (l:List T) (h:rightE l=0):l.length≤9:=by
 have:=right_rises l [] h (by simp [Rises]) (by simp)
 have:=short l 0 (by simpa using this.1) (by simpa using this.2)
 simpa using this
def codeV (f:Int) (l:List T):Int :=
 if f=1 then 0 else if f=2 then 2 else if f=4 then 5 else if f=3 then 6 else if f=7 then 10 else if f=5 then 11 else if f=6 then 12 else
 if f=8 then (if hasT l (7,6,255)=true then 13 else if hasT l (7,17,255)=true then 15 else 0) else
 if f=9 then (if hasT l (7,6,255)=true then 14 else if hasT l (7,17,255)=true then 16 else 0) else 0
theorem codeV_lt (f:Int) (l:List T):0≤codeV f l∧codeV f l≤16:=by unfold codeV;(repeat' split) <;> omega
def szV (f:Int):Nat:=if f=2 then 8 else if f=1∨f=5∨f=6 then 4 else if f=4∨f=8∨f=9∨f=3 then 2 else if f=7 then 1 else 0
theorem szV_eq (f:Int):(wdV f + 7) / 8=(szV f:Int):=by
 by_cases h:f < 1∨9 < f
 ·rw [wdV_none h];unfold szV;repeat (rw [if_neg (by omega)])
  rfl
 ·rcases cls9 h with rfl | rfl | rfl | rfl | rfl | rfl | rfl | rfl | rfl <;> rfl
theorem szV_le (f:Int):szV f≤8:=by unfold szV;(repeat' split) <;> omega
def wholeB (t:T):Bool:=t.2.2 == grV t.1
def restT (t:T):ByteArray:=if wholeB t=true then pb t.2.1 (szV t.1) else pb t.2.1 (szV t.1) ++ pb t.2.2 (szV t.1)
def headT (t:T) (l:List T):Int:=if wholeB t=true then 2 * codeV t.1 l else 2 * codeV t.1 l + 1
def encT (t:T) (l:List T):ByteArray:=pb 32768 2 ++ pb (headT t l) 1 ++ pb (restT t).size 1 ++ restT t
def bodyGo:List T→List T→ByteArray
 | _,[]=>⟨#[]⟩
 | l,t :: r=>encT t l ++ bodyGo (l ++ [t]) r
def padV (n:Int):Int:=(n + 7) / 8 * 8
def zeros (n:Nat):ByteArray:=⟨(List.replicate n (0:UInt8)).toArray⟩
def encS (l:List T):ByteArray:=pb 1 2 ++ pb (4 + (bodyGo [] l).size) 2 ++ bodyGo [] l ++ zeros (padV (4 + (bodyGo [] l).size) - (4 + (bodyGo [] l).size)).toNat
theorem restT_size (t:T):(restT t).size≤16:=by
 have:=szV_le t.1
 unfold restT
 split
 ·rw [pb_size];omega
 ·rw [ByteArray.size_append,pb_size,pb_size];omega
theorem encT_size (t:T) (l:List T):(encT t l).size≤20:=by
 have:=restT_size t
 unfold encT
 simp only [ByteArray.size_append,pb_size]
 omega
theorem body_size:∀ (r l:List T),(bodyGo l r).size≤20 * r.length
  | [],_=>by simp [bodyGo,ByteArray.size]
  | t :: r, l => by
    have h1:=encT_size t l
    have h2:=body_size r (l ++ [t])
    rw [bodyGo,ByteArray.size_append,List.length_cons]
    omega
theorem body_right (l:List T) (h:rightE l=0):(bodyGo [] l).size≤180:=by
 have h1:=right_short l h
 have h2:=body_size l []
 omega
theorem gr_pow {f:Int} (h : ¬ (f < 1∨9 < f)):grV f < 256 ^ szV f:=by
 rcases cls9 h with rfl | rfl | rfl | rfl | rfl | rfl | rfl | rfl | rfl <;> decide
theorem szV_pos {f:Int} (h : ¬ (f < 1∨9 < f)):1≤szV f:=by
 rcases cls9 h with rfl | rfl | rfl | rfl | rfl | rfl | rfl | rfl | rfl <;> decide
open Go.ChangeShapes Go.WideShapes Go.ChangeAt Go.RowKit
abbrev tV (t:T):Value:=.agg #[.int .i64 t.1,.int .u64 t.2.1,.int .u64 t.2.2]
abbrev tC (t:T):Array Value:=#[.int .i64 t.1,.int .u64 t.2.1,.int .u64 t.2.2]
abbrev tx (w:World) (t:T):World:=w.alloc (.cells (tC t) 131)
abbrev C3 (w:World) (b o:Nat) (t:T):Prop:=w.cell? ⟨b,o,none⟩=some (.int .i64 t.1)∧w.cell? ⟨b,o + 1,none⟩=some (.int .u64 t.2.1)∧w.cell? ⟨b,o + 2,none⟩=some (.int .u64 t.2.2)
theorem C3.new (w:World) (t:T):C3 (tx w t) w.heap.size 0 t:=by unfold C3 tx;simp
theorem C3.block {w w':World} {b o:Nat} {t:T} (h:C3 w b o t) (g:w'.heap[b]? = w.heap[b]?):C3 w' b o t:=by
 obtain ⟨h0,h1,h2⟩:=h
 have e:∀ o,w'.cell? ⟨b,o,none⟩=w.cell? ⟨b,o,none⟩:=fun o=>World.cell?_of_block (w:=w) g
 exact ⟨(e _).trans h0,(e _).trans h1,(e _).trans h2⟩
theorem C3.below {w w':World} {b o B:Nat} {t:T} (h:C3 w b o t) (hb:b < B) (g:Below B w w'):C3 w' b o t:=h.block (g.block b hb)
def eqB (t u:T):Bool:=decide (t=u)
theorem eqB_true {t u:T}:eqB t u=true↔t=u:=by unfold eqB;simp
theorem eqB_false {t u:T}:eqB t u=false↔t≠u:=by unfold eqB;simp
theorem eqT (t u:T) (w:World):(binOp .eql 131 (tV t) (tV u)).run Tryz.prog w=.ok (.bool (eqB t u)) w:=by
 have u3:=Tryz.underlying3
 have a3:=Tryz.isAgg3
 have z3:=Tryz.sizeOf3
 have u4:=Tryz.underlying24
 have a4:=Tryz.isAgg24
 have z4:=Tryz.sizeOf24
 have hS:Tryz.prog.underlying 131=some (.struct (Tryz.prog.fieldsOf 131)):=by kernel_rfl
 have hp:Tryz.prog.stoodInHeld 131=false:=by kernel_rfl
 rw [run_eql_struct,show (10000:Nat)=9999 + 1 from rfl,run_equalIn_agg w 9999 131 _ _ hS hp]
 simp only [Program.fieldsOf,Tryz.underlying131]
 go_simp
 unfold eqB
 obtain ⟨a,b,c⟩:=t
 obtain ⟨x,y,z⟩:=u
 by_cases h1:a=x <;> by_cases h2:b=y <;> by_cases h3:c=z <;> simp [h1,h2,h3]
theorem guT (op:BinOp) (x y:Operand) (t u:T) (w:World):(eqGuard op 131 x y (tV t) (tV u)).run Tryz.prog w=.ok () w:=run_eqGuard_agg w op 131 x y _ _ (by kernel_rfl)
theorem neT (t u:T) (w:World):(binOp .neq 131 (tV t) (tV u)).run Tryz.prog w=.ok (.bool (!eqB t u)) w:=by
 have h:=eqT t u w
 rw [run_eql_struct] at h
 rw [run_neq_struct]
 generalize (Op.equalIn 10000 131 (tV t) (tV u)).run Tryz.prog w=r at h ⊢
 cases r with
 | ok b w'=>simp [Result.andThen] at h ⊢;exact ⟨by rw [h.1],h.2⟩
 | halt x w'=>simp [Result.andThen] at h
def Ts (w:World) (a:Option Addr) (l:List T):Prop :=
 l=[]∨∃ g o,a=some ⟨g,o,none⟩∧g < w.heap.size∧∀ i (h:i < l.length),C3 w g (o + i * 3) l[i]
theorem Ts.below {w w':World} {a:Option Addr} {l:List T} (h:Ts w a l) (g:Below w.heap.size w w'):Ts w' a l:=by
 rcases h with h | ⟨b,o,ha,hb,hc⟩
 ·exact .inl h
 ·exact .inr ⟨b,o,ha,Nat.lt_of_lt_of_le hb g.size,fun i hi=>(hc i hi).below hb g⟩
theorem Ts.take {w:World} {a:Option Addr} {l:List T} (h:Ts w a l) (k:Nat):Ts w a (l.take k):=by
 rcases h with rfl | ⟨b,o,ha,hb,hc⟩
 ·exact .inl (by simp)
 ·exact .inr ⟨b,o,ha,hb,fun i hi=>by
   have hi':i < l.length:=by rw [List.length_take] at hi;omega
   rw [List.getElem_take]
   exact hc i hi'⟩
theorem Ts.at {w:World} {a:Option Addr} {l:List T} (h:Ts w a l) {k:Nat} (hk:k < l.length):∃ g o,a=some ⟨g,o,none⟩∧g < w.heap.size∧∀ i (h:i < l.length),C3 w g (o + i * 3) l[i]:=by
 rcases h with rfl | h
 ·cases hk
 ·exact h
theorem Ts.alloc {w:World} {a:Option Addr} {l:List T} (h:Ts w a l) (o:Obj):Ts (w.alloc o) a l:=h.below (by go_grown)
theorem take_snoc_get (l:List T) (k:Nat) (h:k < l.length):l.take (k + 1)=l.take k ++ [l[k]]:=List.take_succ_eq_append_getElem h
structure GrS (W:World) where
 w:World
 h:Below W.heap.size W w
abbrev GrT (W:World):Type:=Option (GrS W)
def GrT.w {W:World}:GrT W→World
 | none=>W
 | some g=>g.w
theorem GrT.h {W:World}:(n:GrT W)→Below W.heap.size W n.w
 | none=>Below.refl _ _
 | some g=>g.h
theorem gr_elim {W w':World} (h:∃ n:GrT W,w'=n.w):Below W.heap.size W w':=by
 obtain ⟨n,rfl⟩:=h
 exact n.h
theorem wp_region_grow {P:Program} {id:Nat} {Q:Exit→Act→World→Prop} {a:Act} {w:World} {l:List Oper} (hm:P.follows .mixedOrders=true) (hB:Region.lexB .any l.toArray=true)
    (h:wpQuiet P l.toArray (fun w'=>∃ n:GrT w,w'=n.w) (fun a'=>∀ w',(∃ n:GrT w,w'=n.w)→Q .normal a' w') l a):(Code.region id l.toArray true).wp P Q a w :=
  wp_region_quiet (C:=fun w'=>∃ n:GrT w,w'=n.w) hm hB ⟨some ⟨_,(Below.refl _ w).drew⟩,rfl⟩ (by simpa using h)
theorem btr {a b c:World} {k:Nat} (h:Below k a b) (g:Below b.heap.size b c) (hk:k≤a.heap.size):Below k a c:=h.trans (g.mono (Nat.le_trans hk h.size))
theorem quiet_gr {P:Program} {f:FuncId} {args:Array Value} {W:World} {n:GrT W} {v:Value}
    (h:Calls P f args n.w fun e w'=>e=.returned v∧Below n.w.heap.size n.w w'):Calls P f args n.w fun e w''=>e=.returned v∧∃ m:GrT W,w''=m.w :=
  h.mono fun _ w' ⟨he,hm⟩=>⟨he,some ⟨w',btr n.h hm (Nat.le_refl _)⟩,rfl⟩
theorem quiet_gs {P:Program} {f:FuncId} {args:Array Value} {W:World} {n:GrT W} {v:Value}
    (h:Calls P f args n.w fun e w'=>e=.returned v∧w'=n.w):Calls P f args n.w fun e w''=>e=.returned v∧∃ m:GrT W,w''=m.w :=
  h.mono fun _ _ ⟨he,hm⟩=>⟨he,n,hm⟩
theorem bdr {B:Nat} {a w:World} (h:Below B a w) (n:Nat):Below B a (w.drewN n):=h.trans ⟨rfl,rfl,rfl,Nat.le_refl _,fun _ _=>rfl⟩
theorem C3.gr {W:World} {b o:Nat} {t:T} (h:C3 W b o t) (hb:b < W.heap.size) (n:GrT W):C3 n.w b o t:=h.below hb n.h
theorem Ts.gr {W:World} {a:Option Addr} {l:List T} (h:Ts W a l) (n:GrT W):Ts n.w a l:=h.below n.h
theorem loadT (w:World) (b:Nat) (t:T) (h:C3 w b 0 t):(loadVar 131 ⟨b,0,none⟩).run Tryz.prog w=.ok (tV t) w:=by
 obtain ⟨h0,h1,h2⟩:=h
 simp [go_sem, *]
theorem resT {fn:Func} {k:Tmp} (h:fn.results=#[.cell k 131]) {tmps:Array Value} {w:World} {b:Nat} {t:T} (ht:tmps.getD k undef=.pointer (some ⟨b,0,none⟩)) (hs:C3 w b 0 t) :
    (results fn tmps).run Tryz.prog w=.ok (tV t) w:=by
  have ht':tmps[k]?.getD undef=.pointer (some ⟨b,0,none⟩):=by simpa using ht
  simp [results,h,ht',asAddr,loadT w b t hs]
theorem ret_bool {a b:Bool} (h:a=b):Ending.returned (.bool a)=Ending.returned (.bool b):=by rw [h]
theorem ret_int {k:IntKind} {a b:Int} (h:a=b):Ending.returned (.int k a)=Ending.returned (.int k b):=by rw [h]
theorem has_snoc (l:List T) (k:Nat) (h:k < l.length) (t:T):hasT (l.take (k + 1)) t=(hasT (l.take k) t || decide (l[k]=t)):=by
 unfold hasT;rw [take_snoc_get l k h,List.any_append,List.any_cons,List.any_nil,Bool.or_false]
theorem index_any (a:Option Addr) (l:List T) (cap:Nat) (t:T) (w:World) (h:Ts w a l) (hl:l.length≤100000) :
    Calls Tryz.prog 159 #[.slice a l.length cap,tV t] w fun e w'=>∃ n:Int,e=.returned (.int .i64 n)∧decide (0≤n)=hasT l t∧Below w.heap.size w w':=by
  have hE:=eqT
  have hG:=guT
  go_enter Tryz.func159,Tryz.ntmps159
  go_wp2
  go_loopw [8] (fun i wr=>∃ k:Nat,k≤l.length∧i=.int .i64 k∧hasT (l.take k) t=false∧C3 wr w.heap.size 0 t∧Below w.heap.size w wr) (fun i _=>l.length - (intOf i).toNat)
  case atStart=>exact ⟨0,by omega,rfl,by simp [hasT],C3.new w t,by go_grown⟩
  case round =>
    obtain ⟨k,hk,rfl,hn,⟨b0,b1,b2⟩,hbel⟩:=hrel
    by_cases hlt:k < l.length
    · obtain ⟨g, o, rfl, hg, hc⟩ := h.at hlt
      obtain ⟨c0,c1,c2⟩:=(hc k hlt).below hg hbel
      have hs:=has_snoc l k hlt t
      go_wp2
      go_quiet (fail)
      by_cases he:t=l[k]
      · have HE : Hid (hasT (l.take (k + 1)) t = true) := show hasT (l.take (k + 1)) t = true by rw [hs]; simp [he]
        have hd:eqB t l[k]=true:=eqB_true.2 he
        clear hs he
        rw [hd]
        go_wp2
        go_ret
        refine ⟨k,rfl,?_,bdr hbel _⟩
        have h1:=(hasT_iff _ _).1 HE.out
        rw [decide_eq_true (by omega)]
        exact ((hasT_iff l t).2 (List.mem_of_mem_take h1)).symm
      · have HE : Hid (hasT (l.take (k + 1)) t = false) := show hasT (l.take (k + 1)) t = false by rw [hs, hn]; simp [Ne.symm he]
        have hd:eqB t l[k]=false:=eqB_false.2 he
        clear hs he
        rw [hd]
        go_wp2
        go_roundw
        case rel=>exact ⟨k + 1,by omega,by go_num,HE.out,⟨by simpa using b0,by simpa using b1,by simpa using b2⟩,bdr hbel _⟩
        case measure=>simp [intOf];omega
    · have hk' : k = l.length := by omega
      subst hk'
      go_wp2
      go_ret
      refine ⟨-1,rfl,?_,hbel⟩
      rw [List.take_length] at hn
      rw [hn];rfl
theorem contains_any (a:Option Addr) (l:List T) (cap:Nat) (t:T) (w:World) (h:Ts w a l) (hl:l.length≤100000) :
    Calls Tryz.prog 148 #[.slice a l.length cap,tV t] w fun e w'=>e=.returned (.bool (hasT l t))∧Below w.heap.size w w':=by
  have HI:Hid (∀ w,Ts w a l→Calls Tryz.prog 159 #[.slice a l.length cap,tV t] w fun e w'=>∃ n:Int,e=.returned (.int .i64 n)∧decide (0≤n)=hasT l t∧Below w.heap.size w w'):=fun w h=>index_any a l cap t w h hl
  go_enter Tryz.func148,Tryz.ntmps148
  go_wp2_with fail
  refine (HI.out _ (h.alloc _)).mono ?_
  rintro x w1 ⟨n,rfl,hn,g1⟩
  go_wp2_with fail
  go_ret
  exact ⟨rfl,btr (by go_grown) g1 (by simp)⟩
theorem width_any (f:Int) (w:World):Calls Tryz.prog 143 #[.int .i64 f] w fun e w'=>e=.returned (.int .i64 (wdV f))∧w'=w:=by
 by_cases h:f < 1∨9 < f
 ·obtain ⟨b1,b2,b3,b4,b5,b6,b7,b8,b9⟩:=none_of h
  rw [wdV_none h]
  clear h
  go_enter Tryz.func143,Tryz.ntmps143
  go_wp2
  go_ret
  exact ⟨rfl,rfl⟩
 ·rcases cls9 h with rfl | rfl | rfl | rfl | rfl | rfl | rfl | rfl | rfl
  all_goals
   clear h
   go_enter Tryz.func143,Tryz.ntmps143
   go_wp2
   go_ret
   exact ⟨rfl,rfl⟩
theorem greatest_any (f:Int) (w:World):Calls Tryz.prog 153 #[.int .i64 f] w fun e w'=>e=.returned (.int .u64 (grV f))∧w'=w:=by
 by_cases h:f < 1∨9 < f
 ·have hw:=width_any f
  rw [wdV_none h] at hw
  rw [grV_none h]
  clear h
  go_enter Tryz.func153,Tryz.ntmps153
  go_wp2_with fail
  refine (hw _).mono ?_
  rintro x w1 ⟨rfl,rfl⟩
  go_wp2_with fail
  go_ret
  exact ⟨rfl,rfl⟩
 ·rcases cls9 h with rfl | rfl | rfl | rfl | rfl | rfl | rfl | rfl | rfl
  all_goals
   clear h
   go_enter Tryz.func153,Tryz.ntmps153
   go_wp2_with fail
   refine (width_any _ _).mono ?_
   rintro x w1 ⟨rfl,rfl⟩
   simp only [show wdV 1=32 from rfl,show wdV 2=64 from rfl,show wdV 3=13 from rfl,show wdV 4=16 from rfl,show wdV 5=32 from rfl,show wdV 6=32 from rfl,show wdV 7=8 from rfl,show wdV 8=16 from rfl,show wdV 9=16 from rfl]
   go_wp2_with fail
   go_ret
   exact ⟨rfl,rfl⟩
theorem whole_any (f v:Int) (w:World):Calls Tryz.prog 149 #[.int .i64 f,.int .u64 v] w fun e w'=>e=.returned (tV (f,v,grV f))∧Below w.heap.size w w':=by
 have HG:Hid (∀ w,Calls Tryz.prog 153 #[.int .i64 f] w fun e w'=>e=.returned (.int .u64 (grV f))∧w'=w):=fun w=>greatest_any f w
 go_enter Tryz.func149,Tryz.ntmps149
 go_wp2_with fail
 refine (HG.out _).mono ?_
 rintro x w1 ⟨rfl,rfl⟩
 go_wp2_with fail
 refine bodyPost_ret (resT (b:=w.heap.size) (t:=(f,v,grV f)) rfl rfl (by unfold C3;simp)) rfl ?_
 exact ⟨rfl,by go_grown⟩
theorem isWhole_any (t:T) (w:World):Calls Tryz.prog 131 #[tV t] w fun e w'=>e=.returned (.bool (wholeB t))∧Below w.heap.size w w':=by
 have hE:=eqT
 have hG:=guT
 have HW:Hid (∀ w,Calls Tryz.prog 149 #[.int .i64 t.1,.int .u64 t.2.1] w fun e w'=>e=.returned (tV (t.1,t.2.1,grV t.1))∧Below w.heap.size w w'):=fun w=>whole_any _ _ w
 have e:wholeB t=eqB t (t.1,t.2.1,grV t.1):=by
  obtain ⟨a,b,c⟩:=t
  apply bool_iff
  rw [eqB_true]
  simp [wholeB]
 rw [e]
 clear e
 have q:=C3.gr (C3.new w t) (by simp)
 have q0:=fun n=>(q n).1
 have q1:=fun n=>(q n).2.1
 have q2:=fun n=>(q n).2.2
 clear q
 go_enter Tryz.func131,Tryz.ntmps131
 go_wp2_with fail
 refine wp_region_grow (by kernel_rfl) (by kernel_rfl) ?_
 repeat (go_big_quiet_step (first | (go_at_call 149;exact quiet_gr (HW.out _))))
 refine wpQuiet_nil ?_
 rintro w1 hw'
 have g1:=gr_elim hw'
 clear hw'
 go_wp2_with fail
 go_ret
 exact ⟨rfl,btr (by go_grown) g1 (by simp)⟩
theorem fits_0 (t:T) (w:World) (h0:(t.2.2 != 0)=false):Calls Tryz.prog 144 #[tV t] w fun e w'=>e=.returned (.bool (false))∧Below w.heap.size w w':=by
 have HG:Hid (∀ w,Calls Tryz.prog 153 #[.int .i64 t.1] w fun e w'=>e=.returned (.int .u64 (grV t.1))∧w'=w):=fun w=>greatest_any _ w
 have q:=C3.gr (C3.new w t) (by simp)
 have q0:=fun n=>(q n).1
 have q1:=fun n=>(q n).2.1
 have q2:=fun n=>(q n).2.2
 clear q
 go_enter Tryz.func144,Tryz.ntmps144
 go_wp2_with fail
 refine wp_region_grow (by kernel_rfl) (by kernel_rfl) ?_
 repeat (go_big_quiet_step (first | (go_at_call 153;exact quiet_gs (HG.out _))))
 refine wpQuiet_nil ?_
 rintro w1 hw'
 have g1:=gr_elim hw'
 clear hw'
 go_wp2_with fail
 go_ret
 exact ⟨rfl,btr (by go_grown) g1 (by simp)⟩
theorem fits_1 (t:T) (w:World) (h0:(t.2.2 != 0)=true) (h1:decide (t.2.2≤grV t.1)=false):Calls Tryz.prog 144 #[tV t] w fun e w'=>e=.returned (.bool (false))∧Below w.heap.size w w':=by
 have HG:Hid (∀ w,Calls Tryz.prog 153 #[.int .i64 t.1] w fun e w'=>e=.returned (.int .u64 (grV t.1))∧w'=w):=fun w=>greatest_any _ w
 have q:=C3.gr (C3.new w t) (by simp)
 have q0:=fun n=>(q n).1
 have q1:=fun n=>(q n).2.1
 have q2:=fun n=>(q n).2.2
 clear q
 go_enter Tryz.func144,Tryz.ntmps144
 go_wp2_with fail
 refine wp_region_grow (by kernel_rfl) (by kernel_rfl) ?_
 repeat (go_big_quiet_step (first | (go_at_call 153;exact quiet_gs (HG.out _))))
 refine wpQuiet_nil ?_
 rintro w1 hw'
 have g1:=gr_elim hw'
 clear hw'
 go_wp2_with fail
 go_ret
 exact ⟨rfl,btr (by go_grown) g1 (by simp)⟩
theorem fits_2 (t:T) (w:World) (h0:(t.2.2 != 0)=true) (h1:decide (t.2.2≤grV t.1)=true):Calls Tryz.prog 144 #[tV t] w fun e w'=>e=.returned (.bool (bits .andNot .u64 t.2.1 t.2.2 == 0))∧Below w.heap.size w w':=by
 have HG:Hid (∀ w,Calls Tryz.prog 153 #[.int .i64 t.1] w fun e w'=>e=.returned (.int .u64 (grV t.1))∧w'=w):=fun w=>greatest_any _ w
 have q:=C3.gr (C3.new w t) (by simp)
 have q0:=fun n=>(q n).1
 have q1:=fun n=>(q n).2.1
 have q2:=fun n=>(q n).2.2
 clear q
 go_enter Tryz.func144,Tryz.ntmps144
 go_wp2_with fail
 refine wp_region_grow (by kernel_rfl) (by kernel_rfl) ?_
 repeat (go_big_quiet_step (first | (go_at_call 153;exact quiet_gs (HG.out _))))
 refine wpQuiet_nil ?_
 rintro w1 hw'
 have g1:=gr_elim hw'
 clear hw'
 go_wp2_with fail
 go_ret
 exact ⟨rfl,btr (by go_grown) g1 (by simp)⟩
theorem fits_any (t:T) (w:World):Calls Tryz.prog 144 #[tV t] w fun e w'=>e=.returned (.bool (fitB t))∧Below w.heap.size w w':=by
  unfold fitB
  cases h0:(t.2.2 != 0) with
  | false =>
    have e:(t.2.2 == 0)=true:=by simpa using h0
    rw [e]
    exact fits_0 t w h0
  | true =>
    have e:(t.2.2 == 0)=false:=by simpa using h0
    rw [e]
    cases h1:decide (t.2.2≤grV t.1) with
    | false=>exact fits_1 t w h0 h1
    | true=>exact fits_2 t w h0 h1
def tb:List (Int × Int × Int):=[(1,0,0),(2,0,2),(4,0,5),(3,0,6),(7,0,10),(5,0,11),(6,0,12),(8,6,13),(9,6,14),(8,17,15),(9,17,16)]
abbrev codesA:Array Value:=#[.int .i64 1,.int .i64 0,.int .i64 0,.int .i64 2,.int .i64 0,.int .i64 2,.int .i64 4,.int .i64 0,.int .i64 5,.int .i64 3,.int .i64 0,.int .i64 6,.int .i64 7,.int .i64 0,.int .i64 10,.int .i64 5,.int .i64 0,.int .i64 11,.int .i64 6,.int .i64 0,.int .i64 12,.int .i64 8,.int .i64 6,.int .i64 13,.int .i64 9,.int .i64 6,.int .i64 14,.int .i64 8,.int .i64 17,.int .i64 15,.int .i64 9,.int .i64 17,.int .i64 16]
def Cd (w:World):Prop:=∃ t fr,w.heap[2]? = some (.cells codesA t fr)
theorem Cd.pos {w:World} (h:Cd w):2 < w.heap.size:=by
 obtain ⟨t,fr,h⟩:=h
 by_cases hz:2 < w.heap.size
 ·exact hz
 ·rw [Array.getElem?_eq_none (by omega)] at h;cases h
theorem Cd.below {w w':World} (h:Cd w) (g:Below w.heap.size w w'):Cd w':=by
 have hb:=g.block 2 h.pos
 obtain ⟨t,fr,h⟩:=h
 exact ⟨t,fr,hb.trans h⟩
theorem Cd.alloc {w:World} (h:Cd w) (o:Obj):Cd (w.alloc o):=h.below (by go_grown)
def codeFrom:List (Int × Int × Int)→Int→List T→Int
 | [],_,_=>0
 | c :: r,f,l=>if c.1=f∧(c.2.1=0∨hasT l (7,c.2.1,255)=true) then c.2.2 else codeFrom r f l
theorem codeV_from (f:Int) (l:List T):codeV f l=codeFrom tb f l:=by
 by_cases h:f < 1∨9 < f
 ·unfold codeV tb
  simp only [codeFrom]
  repeat (rw [if_neg (by omega)])
 ·rcases cls9 h with rfl | rfl | rfl | rfl | rfl | rfl | rfl | rfl | rfl <;> simp [codeV,tb,codeFrom]
theorem idxA (cs:List Value) (i:Int) (h0:0≤i) (h1:i < 11) (w:World):(Instr.index 181 (.agg cs.toArray) (.int .i64 i)).run Tryz.prog w=.ok (.agg ((cs.drop (i.toNat * 3)).take 3).toArray) w:=by
 have hn:0≤i∧i < ((11:Nat):Int):=by omega
 have hu:Tryz.prog.underlying 181=some (.array 11 180):=Tryz.underlying181
 have e:cs.toArray.extract (i.toNat * 3) (i.toNat * 3 + 3)=((cs.drop (i.toNat * 3)).take 3).toArray:=by
  apply Array.toList_inj.1
  simp [List.extract_eq_take_drop]
 rw [← e]
 clear e
 simp [Instr.index,run_underlying hu,asIntOf,hn,go_sem]
 intro h
 omega
abbrev codesV:Value:=.agg codesA
theorem idx0 (w:World):(Instr.index 181 codesV (.int .i64 0)).run Tryz.prog w=.ok (.agg #[.int .i64 1,.int .i64 0,.int .i64 0]) w:=idxA _ 0 (by omega) (by omega) w
theorem idx1 (w:World):(Instr.index 181 codesV (.int .i64 1)).run Tryz.prog w=.ok (.agg #[.int .i64 2,.int .i64 0,.int .i64 2]) w:=idxA _ 1 (by omega) (by omega) w
theorem idx2 (w:World):(Instr.index 181 codesV (.int .i64 2)).run Tryz.prog w=.ok (.agg #[.int .i64 4,.int .i64 0,.int .i64 5]) w:=idxA _ 2 (by omega) (by omega) w
theorem idx3 (w:World):(Instr.index 181 codesV (.int .i64 3)).run Tryz.prog w=.ok (.agg #[.int .i64 3,.int .i64 0,.int .i64 6]) w:=idxA _ 3 (by omega) (by omega) w
theorem idx4 (w:World):(Instr.index 181 codesV (.int .i64 4)).run Tryz.prog w=.ok (.agg #[.int .i64 7,.int .i64 0,.int .i64 10]) w:=idxA _ 4 (by omega) (by omega) w
theorem idx5 (w:World):(Instr.index 181 codesV (.int .i64 5)).run Tryz.prog w=.ok (.agg #[.int .i64 5,.int .i64 0,.int .i64 11]) w:=idxA _ 5 (by omega) (by omega) w
theorem idx6 (w:World):(Instr.index 181 codesV (.int .i64 6)).run Tryz.prog w=.ok (.agg #[.int .i64 6,.int .i64 0,.int .i64 12]) w:=idxA _ 6 (by omega) (by omega) w
theorem idx7 (w:World):(Instr.index 181 codesV (.int .i64 7)).run Tryz.prog w=.ok (.agg #[.int .i64 8,.int .i64 6,.int .i64 13]) w:=idxA _ 7 (by omega) (by omega) w
theorem idx8 (w:World):(Instr.index 181 codesV (.int .i64 8)).run Tryz.prog w=.ok (.agg #[.int .i64 9,.int .i64 6,.int .i64 14]) w:=idxA _ 8 (by omega) (by omega) w
theorem idx9 (w:World):(Instr.index 181 codesV (.int .i64 9)).run Tryz.prog w=.ok (.agg #[.int .i64 8,.int .i64 17,.int .i64 15]) w:=idxA _ 9 (by omega) (by omega) w
theorem idx10 (w:World):(Instr.index 181 codesV (.int .i64 10)).run Tryz.prog w=.ok (.agg #[.int .i64 9,.int .i64 17,.int .i64 16]) w:=idxA _ 10 (by omega) (by omega) w
theorem code_any (f:Int) (a:Option Addr) (l:List T) (cap:Nat) (w:World) (h:Ts w a l) (hl:l.length≤100000) (hd:Cd w) :
    Calls Tryz.prog 129 #[.int .i64 f,.slice a l.length cap] w fun e w'=>e=.returned (.int .i64 (codeV f l))∧Below w.heap.size w w':=by
  have HW:Hid (∀ v w,Calls Tryz.prog 149 #[.int .i64 7,.int .u64 v] w fun e w'=>e=.returned (tV (7,v,255))∧Below w.heap.size w w'):=fun v w=>whole_any 7 v w
  have HC:Hid (∀ t b w,hasT l t=b→Ts w a l→Calls Tryz.prog 148 #[.slice a l.length cap,tV t] w fun e w'=>e=.returned (.bool b)∧Below w.heap.size w w'):=fun t b w hb h=>hb ▸ contains_any a l cap t w h hl
  rw [codeV_from]
  obtain ⟨ct,cfr,hd⟩:=hd
  go_enter Tryz.func129,Tryz.ntmps129
  go_wp2_with (refine wpList_load_row rfl 181 (.global 2) rfl 2 rfl ct codesA cfr _ hd Tryz.underlying181 rfl (by kernel_rfl) ?_)
  clear hd
  go_loopw [8] (fun i wr=>∃ k:Int,0≤k∧k≤11∧i=.int .i64 k∧codeFrom tb f l=codeFrom (tb.drop k.toNat) f l∧Below w.heap.size w wr) (fun i _=>11 - (intOf i).toNat)
  case atStart=>exact ⟨0,by omega,by omega,rfl,rfl,by go_grown⟩
  case round =>
    obtain ⟨k,hk0,hk,rfl,hr,hbel⟩:=hrel
    have hT:=h.below hbel
    have hcl:k=0∨k=1∨k=2∨k=3∨k=4∨k=5∨k=6∨k=7∨k=8∨k=9∨k=10∨k=11:=by omega
    rcases hcl with rfl | rfl | rfl | rfl | rfl | rfl | rfl | rfl | rfl | rfl | rfl | rfl
    · have hx := idx0
      have hr':codeFrom tb f l=if (1:Int)=f∧((0:Int)=0∨hasT l (7,0,255)=true) then 0 else codeFrom (tb.drop 1) f l:=hr
      cases hf:((1:Int) == f)
      · have hne : ¬ (1 : Int) = f := by simpa using hf
        have HR:Hid (codeFrom tb f l=codeFrom (tb.drop 1) f l):=(show _=_ by rw [hr',if_neg (fun x=>hne x.1)])
        clear hr hr' hne
        go_wp2_with fail
        go_roundw
        case rel=>exact ⟨1,by omega,by omega,by go_num,HR.out,hbel.alloc hbel.size _⟩
        case measure=>simp [intOf]
      · have hne : (1 : Int) = f := by simpa using hf
        have HR:Hid (codeFrom tb f l=0):=(show _=_ by rw [hr',if_pos ⟨hne,.inl rfl⟩])
        clear hr hr' hne
        go_wp2_with fail
        go_ret
        exact ⟨by rw [HR.out];rfl,hbel.alloc hbel.size _⟩
    · have hx := idx1
      have hr':codeFrom tb f l=if (2:Int)=f∧((0:Int)=0∨hasT l (7,0,255)=true) then 2 else codeFrom (tb.drop 2) f l:=hr
      cases hf:((2:Int) == f)
      · have hne : ¬ (2 : Int) = f := by simpa using hf
        have HR:Hid (codeFrom tb f l=codeFrom (tb.drop 2) f l):=(show _=_ by rw [hr',if_neg (fun x=>hne x.1)])
        clear hr hr' hne
        go_wp2_with fail
        go_roundw
        case rel=>exact ⟨2,by omega,by omega,by go_num,HR.out,hbel.alloc hbel.size _⟩
        case measure=>simp [intOf]
      · have hne : (2 : Int) = f := by simpa using hf
        have HR:Hid (codeFrom tb f l=2):=(show _=_ by rw [hr',if_pos ⟨hne,.inl rfl⟩])
        clear hr hr' hne
        go_wp2_with fail
        go_ret
        exact ⟨by rw [HR.out];rfl,hbel.alloc hbel.size _⟩
    · have hx := idx2
      have hr':codeFrom tb f l=if (4:Int)=f∧((0:Int)=0∨hasT l (7,0,255)=true) then 5 else codeFrom (tb.drop 3) f l:=hr
      cases hf:((4:Int) == f)
      · have hne : ¬ (4 : Int) = f := by simpa using hf
        have HR:Hid (codeFrom tb f l=codeFrom (tb.drop 3) f l):=(show _=_ by rw [hr',if_neg (fun x=>hne x.1)])
        clear hr hr' hne
        go_wp2_with fail
        go_roundw
        case rel=>exact ⟨3,by omega,by omega,by go_num,HR.out,hbel.alloc hbel.size _⟩
        case measure=>simp [intOf]
      · have hne : (4 : Int) = f := by simpa using hf
        have HR:Hid (codeFrom tb f l=5):=(show _=_ by rw [hr',if_pos ⟨hne,.inl rfl⟩])
        clear hr hr' hne
        go_wp2_with fail
        go_ret
        exact ⟨by rw [HR.out];rfl,hbel.alloc hbel.size _⟩
    · have hx := idx3
      have hr':codeFrom tb f l=if (3:Int)=f∧((0:Int)=0∨hasT l (7,0,255)=true) then 6 else codeFrom (tb.drop 4) f l:=hr
      cases hf:((3:Int) == f)
      · have hne : ¬ (3 : Int) = f := by simpa using hf
        have HR:Hid (codeFrom tb f l=codeFrom (tb.drop 4) f l):=(show _=_ by rw [hr',if_neg (fun x=>hne x.1)])
        clear hr hr' hne
        go_wp2_with fail
        go_roundw
        case rel=>exact ⟨4,by omega,by omega,by go_num,HR.out,hbel.alloc hbel.size _⟩
        case measure=>simp [intOf]
      · have hne : (3 : Int) = f := by simpa using hf
        have HR:Hid (codeFrom tb f l=6):=(show _=_ by rw [hr',if_pos ⟨hne,.inl rfl⟩])
        clear hr hr' hne
        go_wp2_with fail
        go_ret
        exact ⟨by rw [HR.out];rfl,hbel.alloc hbel.size _⟩
    · have hx := idx4
      have hr':codeFrom tb f l=if (7:Int)=f∧((0:Int)=0∨hasT l (7,0,255)=true) then 10 else codeFrom (tb.drop 5) f l:=hr
      cases hf:((7:Int) == f)
      · have hne : ¬ (7 : Int) = f := by simpa using hf
        have HR:Hid (codeFrom tb f l=codeFrom (tb.drop 5) f l):=(show _=_ by rw [hr',if_neg (fun x=>hne x.1)])
        clear hr hr' hne
        go_wp2_with fail
        go_roundw
        case rel=>exact ⟨5,by omega,by omega,by go_num,HR.out,hbel.alloc hbel.size _⟩
        case measure=>simp [intOf]
      · have hne : (7 : Int) = f := by simpa using hf
        have HR:Hid (codeFrom tb f l=10):=(show _=_ by rw [hr',if_pos ⟨hne,.inl rfl⟩])
        clear hr hr' hne
        go_wp2_with fail
        go_ret
        exact ⟨by rw [HR.out];rfl,hbel.alloc hbel.size _⟩
    · have hx := idx5
      have hr':codeFrom tb f l=if (5:Int)=f∧((0:Int)=0∨hasT l (7,0,255)=true) then 11 else codeFrom (tb.drop 6) f l:=hr
      cases hf:((5:Int) == f)
      · have hne : ¬ (5 : Int) = f := by simpa using hf
        have HR:Hid (codeFrom tb f l=codeFrom (tb.drop 6) f l):=(show _=_ by rw [hr',if_neg (fun x=>hne x.1)])
        clear hr hr' hne
        go_wp2_with fail
        go_roundw
        case rel=>exact ⟨6,by omega,by omega,by go_num,HR.out,hbel.alloc hbel.size _⟩
        case measure=>simp [intOf]
      · have hne : (5 : Int) = f := by simpa using hf
        have HR:Hid (codeFrom tb f l=11):=(show _=_ by rw [hr',if_pos ⟨hne,.inl rfl⟩])
        clear hr hr' hne
        go_wp2_with fail
        go_ret
        exact ⟨by rw [HR.out];rfl,hbel.alloc hbel.size _⟩
    · have hx := idx6
      have hr':codeFrom tb f l=if (6:Int)=f∧((0:Int)=0∨hasT l (7,0,255)=true) then 12 else codeFrom (tb.drop 7) f l:=hr
      cases hf:((6:Int) == f)
      · have hne : ¬ (6 : Int) = f := by simpa using hf
        have HR:Hid (codeFrom tb f l=codeFrom (tb.drop 7) f l):=(show _=_ by rw [hr',if_neg (fun x=>hne x.1)])
        clear hr hr' hne
        go_wp2_with fail
        go_roundw
        case rel=>exact ⟨7,by omega,by omega,by go_num,HR.out,hbel.alloc hbel.size _⟩
        case measure=>simp [intOf]
      · have hne : (6 : Int) = f := by simpa using hf
        have HR:Hid (codeFrom tb f l=12):=(show _=_ by rw [hr',if_pos ⟨hne,.inl rfl⟩])
        clear hr hr' hne
        go_wp2_with fail
        go_ret
        exact ⟨by rw [HR.out];rfl,hbel.alloc hbel.size _⟩
    · have hx := idx7
      have hr':codeFrom tb f l=if (8:Int)=f∧((6:Int)=0∨hasT l (7,6,255)=true) then 13 else codeFrom (tb.drop 8) f l:=hr
      cases hf:((8:Int) == f)
      · have hne : ¬ (8 : Int) = f := by simpa using hf
        have HR:Hid (codeFrom tb f l=codeFrom (tb.drop 8) f l):=(show _=_ by rw [hr',if_neg (fun x=>hne x.1)])
        clear hr hr' hne
        go_wp2_with fail
        go_roundw
        case rel=>exact ⟨8,by omega,by omega,by go_num,HR.out,hbel.alloc hbel.size _⟩
        case measure=>simp [intOf]
      · have hne : (8 : Int) = f := by simpa using hf
        cases hh:hasT l (7,6,255)
        · have HR : Hid (codeFrom tb f l = codeFrom (tb.drop 8) f l) := (show _ = _ by rw [hr', if_neg (by rw [hh]; simp)])
          clear hr hr' hne
          go_wp2_with fail
          refine (HW.out _ _).mono ?_
          rintro x w1 ⟨rfl,g1⟩
          go_wp2_with fail
          refine (HC.out _ _ _ hh ((hT.alloc _).below g1)).mono ?_
          rintro x w2 ⟨rfl,g2⟩
          have g3:=btr (btr (hbel.alloc hbel.size _) g1 (Nat.le_refl _)) g2 (Nat.le_refl _)
          go_wp2_with fail
          go_roundw
          case rel=>exact ⟨8,by omega,by omega,by go_num,HR.out,g3⟩
          case measure=>simp [intOf]
        · have HR : Hid (codeFrom tb f l = 13) := (show _ = _ by rw [hr', if_pos ⟨hne, .inr hh⟩])
          clear hr hr' hne
          go_wp2_with fail
          refine (HW.out _ _).mono ?_
          rintro x w1 ⟨rfl,g1⟩
          go_wp2_with fail
          refine (HC.out _ _ _ hh ((hT.alloc _).below g1)).mono ?_
          rintro x w2 ⟨rfl,g2⟩
          have g3:=btr (btr (hbel.alloc hbel.size _) g1 (Nat.le_refl _)) g2 (Nat.le_refl _)
          have c2:=(g2.cell (p:=⟨wr.heap.size,2,none⟩) (show wr.heap.size < w1.heap.size from Nat.lt_of_lt_of_le (by simp) g1.size)).trans (g1.cell (p:=⟨wr.heap.size,2,none⟩) (show wr.heap.size < (wr.alloc _).heap.size by simp))
          simp at c2
          go_wp2_with fail
          go_ret
          exact ⟨by rw [HR.out];rfl,g3⟩
    · have hx := idx8
      have hr':codeFrom tb f l=if (9:Int)=f∧((6:Int)=0∨hasT l (7,6,255)=true) then 14 else codeFrom (tb.drop 9) f l:=hr
      cases hf:((9:Int) == f)
      · have hne : ¬ (9 : Int) = f := by simpa using hf
        have HR:Hid (codeFrom tb f l=codeFrom (tb.drop 9) f l):=(show _=_ by rw [hr',if_neg (fun x=>hne x.1)])
        clear hr hr' hne
        go_wp2_with fail
        go_roundw
        case rel=>exact ⟨9,by omega,by omega,by go_num,HR.out,hbel.alloc hbel.size _⟩
        case measure=>simp [intOf]
      · have hne : (9 : Int) = f := by simpa using hf
        cases hh:hasT l (7,6,255)
        · have HR : Hid (codeFrom tb f l = codeFrom (tb.drop 9) f l) := (show _ = _ by rw [hr', if_neg (by rw [hh]; simp)])
          clear hr hr' hne
          go_wp2_with fail
          refine (HW.out _ _).mono ?_
          rintro x w1 ⟨rfl,g1⟩
          go_wp2_with fail
          refine (HC.out _ _ _ hh ((hT.alloc _).below g1)).mono ?_
          rintro x w2 ⟨rfl,g2⟩
          have g3:=btr (btr (hbel.alloc hbel.size _) g1 (Nat.le_refl _)) g2 (Nat.le_refl _)
          go_wp2_with fail
          go_roundw
          case rel=>exact ⟨9,by omega,by omega,by go_num,HR.out,g3⟩
          case measure=>simp [intOf]
        · have HR : Hid (codeFrom tb f l = 14) := (show _ = _ by rw [hr', if_pos ⟨hne, .inr hh⟩])
          clear hr hr' hne
          go_wp2_with fail
          refine (HW.out _ _).mono ?_
          rintro x w1 ⟨rfl,g1⟩
          go_wp2_with fail
          refine (HC.out _ _ _ hh ((hT.alloc _).below g1)).mono ?_
          rintro x w2 ⟨rfl,g2⟩
          have g3:=btr (btr (hbel.alloc hbel.size _) g1 (Nat.le_refl _)) g2 (Nat.le_refl _)
          have c2:=(g2.cell (p:=⟨wr.heap.size,2,none⟩) (show wr.heap.size < w1.heap.size from Nat.lt_of_lt_of_le (by simp) g1.size)).trans (g1.cell (p:=⟨wr.heap.size,2,none⟩) (show wr.heap.size < (wr.alloc _).heap.size by simp))
          simp at c2
          go_wp2_with fail
          go_ret
          exact ⟨by rw [HR.out];rfl,g3⟩
    · have hx := idx9
      have hr':codeFrom tb f l=if (8:Int)=f∧((17:Int)=0∨hasT l (7,17,255)=true) then 15 else codeFrom (tb.drop 10) f l:=hr
      cases hf:((8:Int) == f)
      · have hne : ¬ (8 : Int) = f := by simpa using hf
        have HR:Hid (codeFrom tb f l=codeFrom (tb.drop 10) f l):=(show _=_ by rw [hr',if_neg (fun x=>hne x.1)])
        clear hr hr' hne
        go_wp2_with fail
        go_roundw
        case rel=>exact ⟨10,by omega,by omega,by go_num,HR.out,hbel.alloc hbel.size _⟩
        case measure=>simp [intOf]
      · have hne : (8 : Int) = f := by simpa using hf
        cases hh:hasT l (7,17,255)
        · have HR : Hid (codeFrom tb f l = codeFrom (tb.drop 10) f l) := (show _ = _ by rw [hr', if_neg (by rw [hh]; simp)])
          clear hr hr' hne
          go_wp2_with fail
          refine (HW.out _ _).mono ?_
          rintro x w1 ⟨rfl,g1⟩
          go_wp2_with fail
          refine (HC.out _ _ _ hh ((hT.alloc _).below g1)).mono ?_
          rintro x w2 ⟨rfl,g2⟩
          have g3:=btr (btr (hbel.alloc hbel.size _) g1 (Nat.le_refl _)) g2 (Nat.le_refl _)
          go_wp2_with fail
          go_roundw
          case rel=>exact ⟨10,by omega,by omega,by go_num,HR.out,g3⟩
          case measure=>simp [intOf]
        · have HR : Hid (codeFrom tb f l = 15) := (show _ = _ by rw [hr', if_pos ⟨hne, .inr hh⟩])
          clear hr hr' hne
          go_wp2_with fail
          refine (HW.out _ _).mono ?_
          rintro x w1 ⟨rfl,g1⟩
          go_wp2_with fail
          refine (HC.out _ _ _ hh ((hT.alloc _).below g1)).mono ?_
          rintro x w2 ⟨rfl,g2⟩
          have g3:=btr (btr (hbel.alloc hbel.size _) g1 (Nat.le_refl _)) g2 (Nat.le_refl _)
          have c2:=(g2.cell (p:=⟨wr.heap.size,2,none⟩) (show wr.heap.size < w1.heap.size from Nat.lt_of_lt_of_le (by simp) g1.size)).trans (g1.cell (p:=⟨wr.heap.size,2,none⟩) (show wr.heap.size < (wr.alloc _).heap.size by simp))
          simp at c2
          go_wp2_with fail
          go_ret
          exact ⟨by rw [HR.out];rfl,g3⟩
    · have hx := idx10
      have hr':codeFrom tb f l=if (9:Int)=f∧((17:Int)=0∨hasT l (7,17,255)=true) then 16 else codeFrom (tb.drop 11) f l:=hr
      cases hf:((9:Int) == f)
      · have hne : ¬ (9 : Int) = f := by simpa using hf
        have HR:Hid (codeFrom tb f l=codeFrom (tb.drop 11) f l):=(show _=_ by rw [hr',if_neg (fun x=>hne x.1)])
        clear hr hr' hne
        go_wp2_with fail
        go_roundw
        case rel=>exact ⟨11,by omega,by omega,by go_num,HR.out,hbel.alloc hbel.size _⟩
        case measure=>simp [intOf]
      · have hne : (9 : Int) = f := by simpa using hf
        cases hh:hasT l (7,17,255)
        · have HR : Hid (codeFrom tb f l = codeFrom (tb.drop 11) f l) := (show _ = _ by rw [hr', if_neg (by rw [hh]; simp)])
          clear hr hr' hne
          go_wp2_with fail
          refine (HW.out _ _).mono ?_
          rintro x w1 ⟨rfl,g1⟩
          go_wp2_with fail
          refine (HC.out _ _ _ hh ((hT.alloc _).below g1)).mono ?_
          rintro x w2 ⟨rfl,g2⟩
          have g3:=btr (btr (hbel.alloc hbel.size _) g1 (Nat.le_refl _)) g2 (Nat.le_refl _)
          go_wp2_with fail
          go_roundw
          case rel=>exact ⟨11,by omega,by omega,by go_num,HR.out,g3⟩
          case measure=>simp [intOf]
        · have HR : Hid (codeFrom tb f l = 16) := (show _ = _ by rw [hr', if_pos ⟨hne, .inr hh⟩])
          clear hr hr' hne
          go_wp2_with fail
          refine (HW.out _ _).mono ?_
          rintro x w1 ⟨rfl,g1⟩
          go_wp2_with fail
          refine (HC.out _ _ _ hh ((hT.alloc _).below g1)).mono ?_
          rintro x w2 ⟨rfl,g2⟩
          have g3:=btr (btr (hbel.alloc hbel.size _) g1 (Nat.le_refl _)) g2 (Nat.le_refl _)
          have c2:=(g2.cell (p:=⟨wr.heap.size,2,none⟩) (show wr.heap.size < w1.heap.size from Nat.lt_of_lt_of_le (by simp) g1.size)).trans (g1.cell (p:=⟨wr.heap.size,2,none⟩) (show wr.heap.size < (wr.alloc _).heap.size by simp))
          simp at c2
          go_wp2_with fail
          go_ret
          exact ⟨by rw [HR.out];rfl,g3⟩
    · have e : codeFrom tb f l = 0 := hr
      go_wp2_with fail
      go_ret
      exact ⟨by rw [e];rfl,hbel⟩
theorem infoB:(Tryz.prog.info? 5).map (fun i=>(i.zero,i.size,i.bytes))=some (some (.int .u8 0),1,1):=by kernel_rfl
theorem mkAny (k:Nat) (w:World) (hk:k≤8):(Instr.makeSlice 114 (.int .i64 k) (.int .i64 k)).run Tryz.prog w=.ok (.slice (some ⟨w.heap.size,0,none⟩) k k) (w.alloc (.cells (List.replicate k (.int .u8 0)).toArray 5)):=by
 obtain ⟨i0,hi,hz0,hz1,hz2⟩:=info_parts infoB
 rw [run_make w 114 5 i0 _ Tryz.underlying114 hi hz0 .i64 .i64 k k (by omega) (by omega) (by rw [hz2];omega) (by omega),hz1]
 have e:madeCells (Value.int .u8 0).cells (Int.toNat (k:Int) * 1)=(List.replicate k (Value.int .u8 0)).toArray:=by
  apply Array.ext <;> simp [madeCells,Value.cells,Nat.mod_one]
 rw [e,Int.toNat_natCast]
theorem cvAny (k:Nat) (xs:List Int) (h:xs.length=k) (w:World) :
    (convert 114 9 (.slice (some ⟨w.heap.size,0,none⟩) k k)).run Tryz.prog (w.alloc (.cells (xs.map (Value.int .u8)).toArray 5))=.ok (.string (strOfNums xs)) (w.alloc (.cells (xs.map (Value.int .u8)).toArray 5)):=by
  refine run_convert_bytes_arg _ 114 5 Tryz.underlying114 Tryz.underlying5 w.heap.size 0 k k xs h (fun i hi => ?_) 9 Tryz.underlying9
  have hi':i < xs.length:=by omega
  simp [List.getElem?_eq_getElem hi']
theorem isSize_any (n:Int) (w:World) :
    Calls Tryz.prog 75 #[.int .i64 n] w fun e w'=>e=.returned (.bool (szB n))∧w'=w:=by
  unfold szB
  by_cases h1:1≤n <;> by_cases h2:n≤8 <;>
  · go_enter Tryz.func75, Tryz.ntmps75
    go_wp2
    go_ret
    simp [h1,h2]
theorem mk1 (w:World):(Instr.makeSlice 114 (.int .i64 1) (.int .i64 1)).run Tryz.prog w=.ok (.slice (some ⟨w.heap.size,0,none⟩) 1 1) (w.alloc (.cells #[.int .u8 0] 5)):=mkAny 1 w (by omega)
theorem cv1 (a:Int) (w:World):(convert 114 9 (.slice (some ⟨w.heap.size,0,none⟩) 1 1)).run Tryz.prog (w.alloc (.cells #[.int .u8 a] 5))=.ok (.string (strOfNums [a])) (w.alloc (.cells #[.int .u8 a] 5)):=cvAny 1 [a] rfl w
theorem p1 (n:Int) (h0:0≤n) (h1:n < 256):[n]=pieces n 1:=by simp [pieces];omega
theorem put_1 (n:Int) (w:World) (h0:0≤n) (h1:n < 256) :
    Calls Tryz.prog 38 #[.int .u64 n,.int .i64 1] w fun e w'=>e=.returned (.tuple #[.string (strOfNums (pieces n 1)),.int .i64 0])∧Below w.heap.size w w':=by
  have hm:=mk1
  have hc:=cv1
  have hn:(n / 256 != 0)=false:=by rw [Int.ediv_eq_zero_of_lt h0 h1];rfl
  go_enter Tryz.func38,Tryz.ntmps38
  go_wp2
  go_rounds 2
  go_ret2
  rw [← p1 n h0 h1]
  exact ⟨rfl,by go_grown⟩
theorem mput1 (n:Int) (w:World) (h0:0≤n) (h1:n < 256):Calls Tryz.prog 106 #[.int .u64 n,.int .i64 1] w fun e w'=>e=.returned (.string (pb n 1))∧Below w.heap.size w w':=by
 go_enter Tryz.func106,Tryz.ntmps106
 go_wp2_with fail
 refine (put_1 n _ h0 h1).mono ?_
 rintro x w1 ⟨rfl,g⟩
 go_wp2_with fail
 go_ret
 exact ⟨rfl,g⟩
theorem mk2 (w:World):(Instr.makeSlice 114 (.int .i64 2) (.int .i64 2)).run Tryz.prog w=.ok (.slice (some ⟨w.heap.size,0,none⟩) 2 2) (w.alloc (.cells #[.int .u8 0,.int .u8 0] 5)):=mkAny 2 w (by omega)
theorem cv2 (a b:Int) (w:World):(convert 114 9 (.slice (some ⟨w.heap.size,0,none⟩) 2 2)).run Tryz.prog (w.alloc (.cells #[.int .u8 a,.int .u8 b] 5))=.ok (.string (strOfNums [a,b])) (w.alloc (.cells #[.int .u8 a,.int .u8 b] 5)):=cvAny 2 [a,b] rfl w
theorem p2 (n:Int) (h0:0≤n) (h1:n < 65536):[n / 256,n % 256]=pieces n 2:=by simp [pieces];omega
theorem put_2 (n:Int) (w:World) (h0:0≤n) (h1:n < 65536) :
    Calls Tryz.prog 38 #[.int .u64 n,.int .i64 2] w fun e w'=>e=.returned (.tuple #[.string (strOfNums (pieces n 2)),.int .i64 0])∧Below w.heap.size w w':=by
  have hm:=mk2
  have hc:=cv2
  have hn:(n / 65536 != 0)=false:=by rw [Int.ediv_eq_zero_of_lt h0 h1];rfl
  go_enter Tryz.func38,Tryz.ntmps38
  go_wp2
  go_rounds 3
  go_ret2
  rw [← p2 n h0 h1]
  exact ⟨rfl,by go_grown⟩
theorem mput2 (n:Int) (w:World) (h0:0≤n) (h1:n < 65536):Calls Tryz.prog 106 #[.int .u64 n,.int .i64 2] w fun e w'=>e=.returned (.string (pb n 2))∧Below w.heap.size w w':=by
 go_enter Tryz.func106,Tryz.ntmps106
 go_wp2_with fail
 refine (put_2 n _ h0 h1).mono ?_
 rintro x w1 ⟨rfl,g⟩
 go_wp2_with fail
 go_ret
 exact ⟨rfl,g⟩
theorem mk4 (w:World):(Instr.makeSlice 114 (.int .i64 4) (.int .i64 4)).run Tryz.prog w=.ok (.slice (some ⟨w.heap.size,0,none⟩) 4 4) (w.alloc (.cells #[.int .u8 0,.int .u8 0,.int .u8 0,.int .u8 0] 5)):=mkAny 4 w (by omega)
theorem cv4 (a b c d:Int) (w:World):(convert 114 9 (.slice (some ⟨w.heap.size,0,none⟩) 4 4)).run Tryz.prog (w.alloc (.cells #[.int .u8 a,.int .u8 b,.int .u8 c,.int .u8 d] 5))=.ok (.string (strOfNums [a,b,c,d])) (w.alloc (.cells #[.int .u8 a,.int .u8 b,.int .u8 c,.int .u8 d] 5)):=cvAny 4 [a,b,c,d] rfl w
theorem p4 (n:Int) (h0:0≤n) (h1:n < 4294967296):[n / 16777216,n / 65536 % 256,n / 256 % 256,n % 256]=pieces n 4:=by simp [pieces];omega
theorem put_4 (n:Int) (w:World) (h0:0≤n) (h1:n < 4294967296) :
    Calls Tryz.prog 38 #[.int .u64 n,.int .i64 4] w fun e w'=>e=.returned (.tuple #[.string (strOfNums (pieces n 4)),.int .i64 0])∧Below w.heap.size w w':=by
  have hm:=mk4
  have hc:=cv4
  have hn:(n / 4294967296 != 0)=false:=by rw [Int.ediv_eq_zero_of_lt h0 h1];rfl
  go_enter Tryz.func38,Tryz.ntmps38
  go_wp2
  go_rounds 5
  go_ret2
  rw [← p4 n h0 h1]
  exact ⟨rfl,by go_grown⟩
theorem mput4 (n:Int) (w:World) (h0:0≤n) (h1:n < 4294967296):Calls Tryz.prog 106 #[.int .u64 n,.int .i64 4] w fun e w'=>e=.returned (.string (pb n 4))∧Below w.heap.size w w':=by
 go_enter Tryz.func106,Tryz.ntmps106
 go_wp2_with fail
 refine (put_4 n _ h0 h1).mono ?_
 rintro x w1 ⟨rfl,g⟩
 go_wp2_with fail
 go_ret
 exact ⟨rfl,g⟩
theorem mk8 (w:World):(Instr.makeSlice 114 (.int .i64 8) (.int .i64 8)).run Tryz.prog w=.ok (.slice (some ⟨w.heap.size,0,none⟩) 8 8) (w.alloc (.cells #[.int .u8 0,.int .u8 0,.int .u8 0,.int .u8 0,.int .u8 0,.int .u8 0,.int .u8 0,.int .u8 0] 5)):=mkAny 8 w (by omega)
theorem cv8 (a b c d e f g h:Int) (w:World):(convert 114 9 (.slice (some ⟨w.heap.size,0,none⟩) 8 8)).run Tryz.prog (w.alloc (.cells #[.int .u8 a,.int .u8 b,.int .u8 c,.int .u8 d,.int .u8 e,.int .u8 f,.int .u8 g,.int .u8 h] 5))=.ok (.string (strOfNums [a,b,c,d,e,f,g,h])) (w.alloc (.cells #[.int .u8 a,.int .u8 b,.int .u8 c,.int .u8 d,.int .u8 e,.int .u8 f,.int .u8 g,.int .u8 h] 5)):=cvAny 8 [a,b,c,d,e,f,g,h] rfl w
theorem p8 (n:Int) (h0:0≤n) (h1:n < 18446744073709551616):[n / 72057594037927936,n / 281474976710656 % 256,n / 1099511627776 % 256,n / 4294967296 % 256,n / 16777216 % 256,n / 65536 % 256,n / 256 % 256,n % 256]=pieces n 8:=by simp [pieces];omega
theorem put_8 (n:Int) (w:World) (h0:0≤n) (h1:n < 18446744073709551616) :
    Calls Tryz.prog 38 #[.int .u64 n,.int .i64 8] w fun e w'=>e=.returned (.tuple #[.string (strOfNums (pieces n 8)),.int .i64 0])∧Below w.heap.size w w':=by
  have hm:=mk8
  have hc:=cv8
  have hn:(n / 18446744073709551616 != 0)=false:=by rw [Int.ediv_eq_zero_of_lt h0 h1];rfl
  go_enter Tryz.func38,Tryz.ntmps38
  go_wp2
  go_rounds 9
  go_ret2
  rw [← p8 n h0 h1]
  exact ⟨rfl,by go_grown⟩
theorem mput8 (n:Int) (w:World) (h0:0≤n) (h1:n < 18446744073709551616):Calls Tryz.prog 106 #[.int .u64 n,.int .i64 8] w fun e w'=>e=.returned (.string (pb n 8))∧Below w.heap.size w w':=by
 go_enter Tryz.func106,Tryz.ntmps106
 go_wp2_with fail
 refine (put_8 n _ h0 h1).mono ?_
 rintro x w1 ⟨rfl,g⟩
 go_wp2_with fail
 go_ret
 exact ⟨rfl,g⟩
theorem mput_any (n:Int) (f:Int) (w:World) (hf : ¬ (f < 1∨9 < f)) (h0:0≤n) (h1:n≤grV f):Calls Tryz.prog 106 #[.int .u64 n,.int .i64 (szV f)] w fun e w'=>e=.returned (.string (pb n (szV f)))∧Below w.heap.size w w':=by
 have h2:=Int.lt_of_le_of_lt h1 (gr_pow hf)
 rcases cls9 hf with rfl | rfl | rfl | rfl | rfl | rfl | rfl | rfl | rfl
 ·exact mput4 n w h0 h2
 ·exact mput8 n w h0 h2
 ·exact mput2 n w h0 h2
 ·exact mput2 n w h0 h2
 ·exact mput4 n w h0 h2
 ·exact mput4 n w h0 h2
 ·exact mput1 n w h0 h2
 ·exact mput2 n w h0 h2
 ·exact mput2 n w h0 h2
theorem stand_true (f:Int) (v:Value) (w:World) (h : ¬ (5≤f∧f≤9)):Calls Tryz.prog 145 #[.int .i64 f,v] w fun e w'=>e=.returned (.bool true)∧Below w.heap.size w w':=by
 have b5:(f == 5)=false:=by rw [beq_eq_false_iff_ne];omega
 have b6:(f == 6)=false:=by rw [beq_eq_false_iff_ne];omega
 have b7:(f == 7)=false:=by rw [beq_eq_false_iff_ne];omega
 have b8:(f == 8)=false:=by rw [beq_eq_false_iff_ne];omega
 have b9:(f == 9)=false:=by rw [beq_eq_false_iff_ne];omega
 clear h
 go_enter Tryz.func145,Tryz.ntmps145
 go_wp2
 go_ret
 exact ⟨rfl,by go_grown⟩
theorem stand_inner (f:Int) (a:Option Addr) (l:List T) (cap:Nat) (w:World) (h:Ts w a l) (hl:l.length≤100000) (hf:5≤f∧f≤7) :
    Calls Tryz.prog 145 #[.int .i64 f,.slice a l.length cap] w fun e w'=>e=.returned (.bool (hasT l (4,2048,65535)))∧Below w.heap.size w w':=by
  have HW:Hid (∀ w,Calls Tryz.prog 149 #[.int .i64 4,.int .u64 2048] w fun e w'=>e=.returned (tV (4,2048,65535))∧Below w.heap.size w w'):=fun w=>whole_any 4 2048 w
  have HC:Hid (∀ t w,Ts w a l→Calls Tryz.prog 148 #[.slice a l.length cap,tV t] w fun e w'=>e=.returned (.bool (hasT l t))∧Below w.heap.size w w'):=fun t w h=>contains_any a l cap t w h hl
  have hcl:f=5∨f=6∨f=7:=by omega
  rcases hcl with rfl | rfl | rfl
  all_goals
    clear hf
    go_enter Tryz.func145,Tryz.ntmps145
    go_wp2_with fail
    refine (HW.out _).mono ?_
    rintro x w1 ⟨rfl,g1⟩
    go_wp2_with fail
    refine (HC.out _ _ (h.below g1)).mono ?_
    rintro x w2 ⟨rfl,g2⟩
    go_wp2_with fail
    go_ret
    exact ⟨rfl,btr g1 g2 (Nat.le_refl _)⟩
theorem stand_ports (f:Int) (a:Option Addr) (l:List T) (cap:Nat) (w:World) (h:Ts w a l) (hl:l.length≤100000) (hf:f=8∨f=9) :
    Calls Tryz.prog 145 #[.int .i64 f,.slice a l.length cap] w fun e w'=>e=.returned (.bool (hasT l (7,6,255) || hasT l (7,17,255)))∧Below w.heap.size w w':=by
  have HW:Hid (∀ v w,Calls Tryz.prog 149 #[.int .i64 7,.int .u64 v] w fun e w'=>e=.returned (tV (7,v,255))∧Below w.heap.size w w'):=fun v w=>whole_any 7 v w
  have HC:Hid (∀ t b w,hasT l t=b→Ts w a l→Calls Tryz.prog 148 #[.slice a l.length cap,tV t] w fun e w'=>e=.returned (.bool b)∧Below w.heap.size w w'):=fun t b w hb h=>hb ▸ contains_any a l cap t w h hl
  rcases hf with rfl | rfl
  all_goals
    cases hb:hasT l (7,6,255)
    · go_enter Tryz.func145, Tryz.ntmps145
      go_wp2_with fail
      refine (HW.out _ _).mono ?_
      rintro x w1 ⟨rfl,g1⟩
      go_wp2_with fail
      refine (HC.out _ _ _ hb (h.below g1)).mono ?_
      rintro x w2 ⟨rfl,g2⟩
      go_wp2_with fail
      refine (HW.out _ _).mono ?_
      rintro x w3 ⟨rfl,g3⟩
      go_wp2_with fail
      refine (HC.out _ _ _ rfl (((h.below g1).below g2).below g3)).mono ?_
      rintro x w4 ⟨rfl,g4⟩
      go_wp2_with fail
      go_ret
      exact ⟨rfl,btr (btr (btr g1 g2 (Nat.le_refl _)) g3 (Nat.le_refl _)) g4 (Nat.le_refl _)⟩
    · go_enter Tryz.func145, Tryz.ntmps145
      go_wp2_with fail
      refine (HW.out _ _).mono ?_
      rintro x w1 ⟨rfl,g1⟩
      go_wp2_with fail
      refine (HC.out _ _ _ hb (h.below g1)).mono ?_
      rintro x w2 ⟨rfl,g2⟩
      go_wp2_with fail
      go_ret
      exact ⟨rfl,btr g1 g2 (Nat.le_refl _)⟩
theorem stand_any (f:Int) (a:Option Addr) (l:List T) (cap:Nat) (w:World) (h:Ts w a l) (hl:l.length≤100000) :
    Calls Tryz.prog 145 #[.int .i64 f,.slice a l.length cap] w fun e w'=>e=.returned (.bool (standB f l))∧Below w.heap.size w w':=by
  unfold standB
  by_cases h1:5≤f∧f≤7
  · rw [if_pos h1];exact stand_inner f a l cap w h hl h1
  · rw [if_neg h1]
    by_cases h2:f=8∨f=9
    · rw [if_pos h2];exact stand_ports f a l cap w h hl h2
    · rw [if_neg h2];exact stand_true f _ w (by omega)
theorem behind_none (t:T) (v:Value) (w:World) (h:wdV t.1=0):Calls Tryz.prog 122 #[tV t,v] w fun e w'=>e=.returned (.int .i64 20)∧Below w.heap.size w w':=by
 have HW:Hid (∀ w,Calls Tryz.prog 143 #[.int .i64 t.1] w fun e w'=>e=.returned (.int .i64 0)∧w'=w):=fun w=>h ▸ width_any t.1 w
 clear h
 go_enter Tryz.func122,Tryz.ntmps122
 go_wp2_with fail
 refine (HW.out _).mono ?_
 rintro x w1 ⟨rfl,rfl⟩
 go_wp2_with fail
 go_ret
 exact ⟨rfl,by go_grown⟩
theorem behind_first_fit (t:T) (a:Option Addr) (cap:Nat) (w:World) (h:(wdV t.1 == 0)=false) (h2:fitB t=false) :
    Calls Tryz.prog 122 #[tV t,.slice a 0 cap] w fun e w'=>e=.returned (.int .i64 21)∧Below w.heap.size w w':=by
  have HW:Hid (∀ w,Calls Tryz.prog 143 #[.int .i64 t.1] w fun e w'=>e=.returned (.int .i64 (wdV t.1))∧w'=w):=fun w=>width_any t.1 w
  have HF:Hid (∀ w,Calls Tryz.prog 144 #[tV t] w fun e w'=>e=.returned (.bool false)∧Below w.heap.size w w'):=fun w=>h2 ▸ fits_any t w
  clear h2
  have q:=C3.gr (C3.new w t) (by simp)
  have q0:=fun n=>(q n).1
  clear q
  generalize wdV t.1=y at *
  go_enter Tryz.func122,Tryz.ntmps122
  go_wp2_with fail
  refine (HW.out _).mono ?_
  rintro x w1 ⟨rfl,rfl⟩
  go_wp2_with fail
  refine wp_region_grow (by kernel_rfl) (by kernel_rfl) ?_
  repeat (go_big_quiet_step (fail))
  refine wpQuiet_nil ?_
  rintro w1 hw'
  have g1:=gr_elim hw'
  clear hw'
  have hz:=Nat.lt_of_lt_of_le (show w.heap.size < (tx w t).heap.size by simp) g1.size
  have c:=(C3.new w t).below (by simp) g1
  have c':=c
  obtain ⟨c0,c1,c2⟩:=c'
  go_wp2_with fail
  refine (HF.out _).mono ?_
  rintro x w2 ⟨rfl,g2⟩
  have k:=C3.below (t:=t) c hz g2
  clear c0 c1 c2 c
  obtain ⟨c0,c1,c2⟩:=k
  have g3:Below w.heap.size w w2:=btr (btr (by go_grown) g1 (by simp)) g2 (by simp)
  go_wp2_with fail
  go_ret
  exact ⟨rfl,g3⟩
theorem behind_first_std (t:T) (a:Option Addr) (cap:Nat) (w:World) (h:(wdV t.1 == 0)=false) (h2:fitB t=true) (b:Bool) (HS:Hid (∀ w',Below w.heap.size w w'→Calls Tryz.prog 145 #[.int .i64 t.1,.slice a 0 cap] w' fun e w''=>e=.returned (.bool b)∧Below w'.heap.size w' w'')) :
    Calls Tryz.prog 122 #[tV t,.slice a 0 cap] w fun e w'=>e=.returned (.int .i64 (if b=true then 0 else 21))∧Below w.heap.size w w':=by
  have HW:Hid (∀ w,Calls Tryz.prog 143 #[.int .i64 t.1] w fun e w'=>e=.returned (.int .i64 (wdV t.1))∧w'=w):=fun w=>width_any t.1 w
  have HF:Hid (∀ w,Calls Tryz.prog 144 #[tV t] w fun e w'=>e=.returned (.bool true)∧Below w.heap.size w w'):=fun w=>h2 ▸ fits_any t w
  clear h2
  have q:=C3.gr (C3.new w t) (by simp)
  have q0:=fun n=>(q n).1
  clear q
  generalize wdV t.1=y at *
  cases b
  all_goals
    go_enter Tryz.func122,Tryz.ntmps122
    go_wp2_with fail
    refine (HW.out _).mono ?_
    rintro x w1 ⟨rfl,rfl⟩
    go_wp2_with fail
    refine wp_region_grow (by kernel_rfl) (by kernel_rfl) ?_
    repeat (go_big_quiet_step (fail))
    refine wpQuiet_nil ?_
    rintro w1 hw'
    have g1:=gr_elim hw'
    clear hw'
    have hz:=Nat.lt_of_lt_of_le (show w.heap.size < (tx w t).heap.size by simp) g1.size
    have c:=(C3.new w t).below (by simp) g1
    have c':=c
    obtain ⟨c0,c1,c2⟩:=c'
    go_wp2_with fail
    refine (HF.out _).mono ?_
    rintro x w2 ⟨rfl,g2⟩
    have k:=C3.below (t:=t) c hz g2
    clear c0 c1 c2 c
    obtain ⟨c0,c1,c2⟩:=k
    have g3:Below w.heap.size w w2:=btr (btr (by go_grown) g1 (by simp)) g2 (by simp)
    go_wp2_with fail
    refine (HS.out _ g3).mono ?_
    rintro x w3 ⟨rfl,g4⟩
    go_wp2_with fail
    go_ret
    exact ⟨rfl,btr g3 g4 (by simp)⟩
theorem behind_later_le (t:T) (g o k:Nat) (z:Int) (cap:Nat) (w:World) (h:(wdV t.1 == 0)=false) (hg:g < w.heap.size) (hk:k + 1≤100000) (hz:w.cell? ⟨g,o + k * 3,none⟩=some (.int .i64 z)) (hle:decide (t.1≤z)=true) :
    Calls Tryz.prog 122 #[tV t,.slice (some ⟨g,o,none⟩) (k + 1) cap] w fun e w'=>e=.returned (.int .i64 21)∧Below w.heap.size w w':=by
  have HW:Hid (∀ w,Calls Tryz.prog 143 #[.int .i64 t.1] w fun e w'=>e=.returned (.int .i64 (wdV t.1))∧w'=w):=fun w=>width_any t.1 w
  have q:=C3.gr (C3.new w t) (by simp)
  have q0:=fun n=>(q n).1
  clear q
  have r0:∀ n:GrT (tx w t),n.w.cell? ⟨g,o + k * 3,none⟩=some (.int .i64 z):=fun n=>(n.h.cell (show g < (tx w t).heap.size by simp;omega)).trans ((World.cell?_of_block (w:=w) (heap_alloc_old w _ hg)).trans hz)
  clear hz
  generalize wdV t.1=y at *
  go_enter Tryz.func122,Tryz.ntmps122
  go_wp2_with fail
  refine (HW.out _).mono ?_
  rintro x w1 ⟨rfl,rfl⟩
  go_wp2_with fail
  refine wp_region_grow (by kernel_rfl) (by kernel_rfl) ?_
  repeat (go_big_quiet_step (fail))
  refine wpQuiet_nil ?_
  rintro w1 hw'
  have g1:=gr_elim hw'
  clear hw'
  have hz:=Nat.lt_of_lt_of_le (show w.heap.size < (tx w t).heap.size by simp) g1.size
  have c:=(C3.new w t).below (by simp) g1
  have c':=c
  obtain ⟨c0,c1,c2⟩:=c'
  go_wp2_with fail
  go_ret
  exact ⟨rfl,btr (by go_grown) g1 (by simp)⟩
theorem behind_later_fit (t:T) (g o k:Nat) (z:Int) (cap:Nat) (w:World) (h:(wdV t.1 == 0)=false) (hg:g < w.heap.size) (hk:k + 1≤100000) (hz:w.cell? ⟨g,o + k * 3,none⟩=some (.int .i64 z)) (hle:decide (t.1≤z)=false) (h2:fitB t=false) :
    Calls Tryz.prog 122 #[tV t,.slice (some ⟨g,o,none⟩) (k + 1) cap] w fun e w'=>e=.returned (.int .i64 21)∧Below w.heap.size w w':=by
  have HW:Hid (∀ w,Calls Tryz.prog 143 #[.int .i64 t.1] w fun e w'=>e=.returned (.int .i64 (wdV t.1))∧w'=w):=fun w=>width_any t.1 w
  have HF:Hid (∀ w,Calls Tryz.prog 144 #[tV t] w fun e w'=>e=.returned (.bool false)∧Below w.heap.size w w'):=fun w=>h2 ▸ fits_any t w
  clear h2
  have q:=C3.gr (C3.new w t) (by simp)
  have q0:=fun n=>(q n).1
  clear q
  have r0:∀ n:GrT (tx w t),n.w.cell? ⟨g,o + k * 3,none⟩=some (.int .i64 z):=fun n=>(n.h.cell (show g < (tx w t).heap.size by simp;omega)).trans ((World.cell?_of_block (w:=w) (heap_alloc_old w _ hg)).trans hz)
  clear hz
  generalize wdV t.1=y at *
  go_enter Tryz.func122,Tryz.ntmps122
  go_wp2_with fail
  refine (HW.out _).mono ?_
  rintro x w1 ⟨rfl,rfl⟩
  go_wp2_with fail
  refine wp_region_grow (by kernel_rfl) (by kernel_rfl) ?_
  repeat (go_big_quiet_step (fail))
  refine wpQuiet_nil ?_
  rintro w1 hw'
  have g1:=gr_elim hw'
  clear hw'
  have hz:=Nat.lt_of_lt_of_le (show w.heap.size < (tx w t).heap.size by simp) g1.size
  have c:=(C3.new w t).below (by simp) g1
  have c':=c
  obtain ⟨c0,c1,c2⟩:=c'
  go_wp2_with fail
  refine (HF.out _).mono ?_
  rintro x w2 ⟨rfl,g2⟩
  have k:=C3.below (t:=t) c hz g2
  clear c0 c1 c2 c
  obtain ⟨c0,c1,c2⟩:=k
  have g3:Below w.heap.size w w2:=btr (btr (by go_grown) g1 (by simp)) g2 (by simp)
  go_wp2_with fail
  go_ret
  exact ⟨rfl,g3⟩
theorem behind_later_std (t:T) (g o k:Nat) (z:Int) (cap:Nat) (w:World) (h:(wdV t.1 == 0)=false) (hg:g < w.heap.size) (hk:k + 1≤100000) (hz:w.cell? ⟨g,o + k * 3,none⟩=some (.int .i64 z)) (hle:decide (t.1≤z)=false) (h2:fitB t=true) (b:Bool) (HS:Hid (∀ w',Below w.heap.size w w'→Calls Tryz.prog 145 #[.int .i64 t.1,.slice (some ⟨g,o,none⟩) (k + 1) cap] w' fun e w''=>e=.returned (.bool b)∧Below w'.heap.size w' w'')) :
    Calls Tryz.prog 122 #[tV t,.slice (some ⟨g,o,none⟩) (k + 1) cap] w fun e w'=>e=.returned (.int .i64 (if b=true then 0 else 21))∧Below w.heap.size w w':=by
  have HW:Hid (∀ w,Calls Tryz.prog 143 #[.int .i64 t.1] w fun e w'=>e=.returned (.int .i64 (wdV t.1))∧w'=w):=fun w=>width_any t.1 w
  have HF:Hid (∀ w,Calls Tryz.prog 144 #[tV t] w fun e w'=>e=.returned (.bool true)∧Below w.heap.size w w'):=fun w=>h2 ▸ fits_any t w
  clear h2
  have q:=C3.gr (C3.new w t) (by simp)
  have q0:=fun n=>(q n).1
  clear q
  have r0:∀ n:GrT (tx w t),n.w.cell? ⟨g,o + k * 3,none⟩=some (.int .i64 z):=fun n=>(n.h.cell (show g < (tx w t).heap.size by simp;omega)).trans ((World.cell?_of_block (w:=w) (heap_alloc_old w _ hg)).trans hz)
  clear hz
  generalize wdV t.1=y at *
  cases b
  all_goals
    go_enter Tryz.func122,Tryz.ntmps122
    go_wp2_with fail
    refine (HW.out _).mono ?_
    rintro x w1 ⟨rfl,rfl⟩
    go_wp2_with fail
    refine wp_region_grow (by kernel_rfl) (by kernel_rfl) ?_
    repeat (go_big_quiet_step (fail))
    refine wpQuiet_nil ?_
    rintro w1 hw'
    have g1:=gr_elim hw'
    clear hw'
    have hz:=Nat.lt_of_lt_of_le (show w.heap.size < (tx w t).heap.size by simp) g1.size
    have c:=(C3.new w t).below (by simp) g1
    have c':=c
    obtain ⟨c0,c1,c2⟩:=c'
    go_wp2_with fail
    refine (HF.out _).mono ?_
    rintro x w2 ⟨rfl,g2⟩
    have k:=C3.below (t:=t) c hz g2
    clear c0 c1 c2 c
    obtain ⟨c0,c1,c2⟩:=k
    have g3:Below w.heap.size w w2:=btr (btr (by go_grown) g1 (by simp)) g2 (by simp)
    go_wp2_with fail
    refine (HS.out _ g3).mono ?_
    rintro x w3 ⟨rfl,g4⟩
    go_wp2_with fail
    go_ret
    exact ⟨rfl,btr g3 g4 (by simp)⟩
theorem behind_any (t:T) (a:Option Addr) (l:List T) (cap:Nat) (w:World) (h:Ts w a l) (hl:l.length≤100000) :
    Calls Tryz.prog 122 #[tV t,.slice a l.length cap] w fun e w'=>e=.returned (.int .i64 (behindE t l))∧Below w.heap.size w w':=by
  unfold behindE
  by_cases h0:wdV t.1=0
  · rw [if_pos h0];exact behind_none t _ w h0
  · rw [if_neg h0]
    have hb:(wdV t.1 == 0)=false:=by simpa using h0
    have HS:Hid (∀ w',Below w.heap.size w w'→Calls Tryz.prog 145 #[.int .i64 t.1,.slice a l.length cap] w' fun e w''=>e=.returned (.bool (standB t.1 l))∧Below w'.heap.size w' w''):=fun w' g=>stand_any t.1 a l cap w' (h.below g) hl
    by_cases hn:l=[]
    · subst hn
      cases hf:fitB t with
      | false=>rw [if_pos (by simp)];exact behind_first_fit t a cap w hb hf
      | true =>
        have e:(if ([]:List T)≠[]∧t.1≤lastF []∨true=false∨standB t.1 []=false then (21:Int) else 0)=if standB t.1 []=true then 0 else 21:=by
          cases standB t.1 [] <;> simp
        rw [e]
        exact behind_first_std t a cap w hb hf _ HS
    · have hp:0 < l.length:=by cases l with
        | nil=>exact absurd rfl hn
        | cons=>simp
      obtain ⟨k,hk⟩:∃ k,l.length=k + 1:=⟨l.length - 1,by omega⟩
      obtain ⟨g,o,rfl,hg,hc⟩:=h.at hp
      have hla:=lastF_get l k hk.symm
      have hz:=(hc k (by omega)).1
      rw [← hla] at hz
      rw [hk] at hl HS ⊢
      by_cases h1:t.1≤lastF l
      · rw [if_pos (.inl ⟨hn, h1⟩)]
        exact behind_later_le t g o k (lastF l) cap w hb hg hl hz (by simpa using h1)
      · cases hf : fitB t with
        | false=>rw [if_pos (by simp)];exact behind_later_fit t g o k (lastF l) cap w hb hg hl hz (by simpa using h1) hf
        | true =>
          have e:(if l≠[]∧t.1≤lastF l∨true=false∨standB t.1 l=false then (21:Int) else 0)=if standB t.1 l=true then 0 else 21:=by
            cases standB t.1 l <;> simp [h1]
          rw [e]
          exact behind_later_std t g o k (lastF l) cap w hb hg hl hz (by simpa using h1) hf _ HS
theorem rightGo_at (l:List T) (k:Nat) (h:k < l.length):rightGo (l.take k) (l.drop k)=if behindE l[k] (l.take k)=0 then rightGo (l.take (k + 1)) (l.drop (k + 1)) else behindE l[k] (l.take k):=by
 rw [List.drop_eq_getElem_cons h,rightGo,take_snoc_get l k h]
theorem right_any (a:Option Addr) (l:List T) (cap:Nat) (w:World) (h:Ts w a l) (hl:l.length≤100000) (hc:l.length≤cap) :
    Calls Tryz.prog 96 #[.slice a l.length cap] w fun e w'=>e=.returned (.int .i64 (rightE l))∧Below w.heap.size w w':=by
  have HB:Hid (∀ t k w,k≤l.length→Ts w a l→Calls Tryz.prog 122 #[tV t,.slice a k cap] w fun e w'=>e=.returned (.int .i64 (behindE t (l.take k)))∧Below w.heap.size w w'):=fun t k w hk h=>by
    have hlen:(l.take k).length=k:=by rw [List.length_take];omega
    have:=behind_any t a (l.take k) cap w (h.take k) (by omega)
    rwa [hlen] at this
  go_enter Tryz.func96,Tryz.ntmps96
  go_wp2_with fail
  go_loopw [8] (fun i wr=>∃ k:Nat,k≤l.length∧i=.int .i64 k∧rightE l=rightGo (l.take k) (l.drop k)∧Below w.heap.size w wr) (fun i _=>l.length - (intOf i).toNat)
  case atStart=>exact ⟨0,by omega,rfl,by simp [rightE],Below.refl _ _⟩
  case round =>
    obtain ⟨k,hk,rfl,hr,hbel⟩:=hrel
    by_cases hlt:k < l.length
    · have hT := h.below hbel
      obtain ⟨g,o,rfl,hg,hcs⟩:=hT.at hlt
      obtain ⟨c0,c1,c2⟩:=hcs k hlt
      have q:=C3.gr (C3.new wr l[k]) (by simp)
      have q0:=fun n=>(q n).1
      have q1:=fun n=>(q n).2.1
      have q2:=fun n=>(q n).2.2
      clear q
      have hTn:∀ n:GrT (tx wr l[k]),Ts n.w (some ⟨g,o,none⟩) l:=fun n=>((hT.alloc _).below n.h)
      have HR:Hid (rightGo (l.take k) (l.drop k)=if behindE l[k] (l.take k)=0 then rightGo (l.take (k + 1)) (l.drop (k + 1)) else behindE l[k] (l.take k)):=rightGo_at l k hlt
      have hkl:k≤cap:=by omega
      go_wp2_with fail
      refine wp_region_grow (by kernel_rfl) (by kernel_rfl) ?_
      repeat (go_big_quiet_step (first | (go_at_call 122;exact quiet_gr (HB.out _ _ _ hk (hTn _)))))
      refine wpQuiet_nil ?_
      rintro w1 hw'
      have g1:=gr_elim hw'
      clear hw'
      have g2:Below w.heap.size w w1:=btr (hbel.alloc hbel.size _) g1 (Nat.le_refl _)
      generalize hE:behindE l[k] (l.take k)=e at *
      by_cases he:e=0
      · subst he
        have HR2:Hid (rightE l=rightGo (l.take (k + 1)) (l.drop (k + 1))):=(show _=_ by rw [hr,HR.out,if_pos rfl])
        go_wp2_with fail
        go_roundw
        case rel=>exact ⟨k + 1,by omega,by go_num,HR2.out,g2⟩
        case measure=>simp [intOf];omega
      · have hne : (e != 0) = true := by simpa using he
        have HR2:Hid (rightE l=e):=(show _=_ by rw [hr,HR.out,if_neg he])
        clear hr HR
        go_wp2_with fail
        go_ret
        exact ⟨by rw [HR2.out];rfl,g2⟩
    · have hk' : k = l.length := by omega
      subst hk'
      have e:rightE l=0:=by rw [hr];simp [rightGo]
      go_wp2_with fail
      go_ret
      exact ⟨by rw [e];rfl,hbel⟩
theorem bytesOf_any (f:Int) (w:World):Calls Tryz.prog 130 #[.int .i64 f] w fun e w'=>e=.returned (.int .i64 (szV f))∧w'=w:=by
 have HW:Hid (∀ w,Calls Tryz.prog 143 #[.int .i64 f] w fun e w'=>e=.returned (.int .i64 (wdV f))∧w'=w):=fun w=>width_any f w
 have h:=szV_eq f
 have hb:0≤wdV f∧wdV f≤64:=by unfold wdV;(repeat' split) <;> omega
 rw [← h]
 clear h
 generalize wdV f=y at *
 obtain ⟨b0,b1⟩:=hb
 go_enter Tryz.func130,Tryz.ntmps130
 go_wp2_with fail
 refine (HW.out _).mono ?_
 rintro x w1 ⟨rfl,rfl⟩
 go_wp2_with fail
 go_ret
 exact ⟨ret_int (by first | rfl | omega),rfl⟩
theorem padded_any (n:Int) (w:World) (h0:0≤n) (h1:n≤1000000):Calls Tryz.prog 107 #[.int .i64 n] w fun e w'=>e=.returned (.int .i64 (padV n))∧w'=w:=by
 unfold padV
 go_enter Tryz.func107,Tryz.ntmps107
 go_wp2_with fail
 go_ret
 exact ⟨ret_int (by first | rfl | omega),rfl⟩
theorem encT_true (t:T) (a:Option Addr) (l:List T) (cap:Nat) (w:World) (h:Ts w a l) (hl:l.length≤100000) (hd:Cd w) (hf : ¬ (t.1 < 1∨9 < t.1)) (hv0:0≤t.2.1) (hm0:0≤t.2.2) (hv1:t.2.1≤grV t.1) (hm1:t.2.2≤grV t.1) (hb:wholeB t=true) :
    Calls Tryz.prog 105 #[tV t,.slice a l.length cap] w fun e w'=>e=.returned (.string (encT t l))∧Below w.heap.size w w':=by
  have HC:Hid (Calls Tryz.prog 129 #[.int .i64 t.1,.slice a l.length cap] (tx w t) fun e w'=>e=.returned (.int .i64 (codeV t.1 l))∧Below (tx w t).heap.size (tx w t) w'):=code_any t.1 a l cap _ (h.alloc _) hl (hd.alloc _)
  have HB:Hid (∀ w,Calls Tryz.prog 130 #[.int .i64 t.1] w fun e w'=>e=.returned (.int .i64 (szV t.1))∧w'=w):=fun w=>bytesOf_any t.1 w
  have HV:Hid (∀ w,Calls Tryz.prog 106 #[.int .u64 t.2.1,.int .i64 (szV t.1)] w fun e w'=>e=.returned (.string (pb t.2.1 (szV t.1)))∧Below w.heap.size w w'):=fun w=>mput_any _ _ w hf hv0 hv1
  have HM:Hid (∀ w,Calls Tryz.prog 106 #[.int .u64 t.2.2,.int .i64 (szV t.1)] w fun e w'=>e=.returned (.string (pb t.2.2 (szV t.1)))∧Below w.heap.size w w'):=fun w=>mput_any _ _ w hf hm0 hm1
  have HI:Hid (∀ w,Calls Tryz.prog 131 #[tV t] w fun e w'=>e=.returned (.bool true)∧Below w.heap.size w w'):=fun w=>hb ▸ isWhole_any t w
  have H1:Hid (∀ n w,0≤n→n < 256→Calls Tryz.prog 106 #[.int .u64 n,.int .i64 1] w fun e w'=>e=.returned (.string (pb n 1))∧Below w.heap.size w w'):=fun n w h0 h1=>mput1 n w h0 h1
  have H2:Hid (∀ w,Calls Tryz.prog 106 #[.int .u64 32768,.int .i64 2] w fun e w'=>e=.returned (.string (pb 32768 2))∧Below w.heap.size w w'):=fun w=>mput2 32768 w (by omega) (by omega)
  have hps:=pb_size
  have hs:=restT_size t
  have hE:Hid (encT t l=pb 32768 2 ++ pb (2 * codeV t.1 l) 1 ++ pb (restT t).size 1 ++ restT t):=(show _=_ by unfold encT headT;rw [hb];simp only [if_true])
  have hR:restT t=pb t.2.1 (szV t.1):=by unfold restT;rw [hb];simp only [if_true]
  obtain ⟨z0,z1⟩:=codeV_lt t.1 l
  clear h hl hd hf hv0 hm0 hv1 hm1 hb
  generalize codeV t.1 l=z at *
  generalize encT t l=E at *
  generalize szV t.1=n at *
  rw [hR] at hs
  generalize hRR:restT t=R at *
  clear hRR
  generalize hx:pb t.2.1 n=x at *
  clear hx
  subst hR
  have cc:=C3.new w t
  obtain ⟨c0,c1,c2⟩:=cc
  go_enter Tryz.func105,Tryz.ntmps105
  go_wp2_with fail
  refine HC.out.mono ?_
  rintro r w1 ⟨rfl,g1⟩
  have k1:=(C3.new w t).below (by simp) g1
  have s1:=Nat.lt_of_lt_of_le (show w.heap.size < (tx w t).heap.size by simp) g1.size
  have b1:Below w.heap.size w w1:=btr (by go_grown) g1 (by simp)
  clear c0 c1 c2 g1
  have k1':=k1
  obtain ⟨c0,c1,c2⟩:=k1'
  go_wp2_with fail
  refine (HB.out _).mono ?_
  rintro r w2 ⟨rfl,rfl⟩
  go_wp2_with fail
  refine (HV.out _).mono ?_
  rintro r w2 ⟨rfl,g2⟩
  have k2:=C3.below (t:=t) k1 s1 g2
  have s2:=Nat.lt_of_lt_of_le s1 g2.size
  have b2:=btr b1 g2 (Nat.le_refl _)
  clear c0 c1 c2 k1 s1 g2 b1
  have k2':=k2
  obtain ⟨c0,c1,c2⟩:=k2'
  go_wp2_with fail
  refine (HI.out _).mono ?_
  rintro r w3 ⟨rfl,g3⟩
  have k3:=C3.below (t:=t) k2 s2 g3
  have b3:=btr b2 g3 (Nat.le_refl _)
  clear c0 c1 c2 k2 s2 g3 b2
  obtain ⟨c0,c1,c2⟩:=k3
  go_wp2_with fail
  refine (H2.out _).mono ?_
  rintro r w5 ⟨rfl,g5⟩
  have b5:=btr b3 g5 (Nat.le_refl _)
  clear g5
  go_wp2_with fail
  refine (H1.out _ _ (by omega) (by omega)).mono ?_
  rintro r w6 ⟨rfl,g6⟩
  have b6:=btr b5 g6 (Nat.le_refl _)
  clear g6
  go_wp2_with fail
  refine (H1.out _ _ (by omega) (by omega)).mono ?_
  rintro r w7 ⟨rfl,g7⟩
  have b7:=btr b6 g7 (Nat.le_refl _)
  clear g7
  go_wp2_with fail
  go_ret
  exact ⟨by rw [hE.out];rfl,b7⟩
theorem encT_false (t:T) (a:Option Addr) (l:List T) (cap:Nat) (w:World) (h:Ts w a l) (hl:l.length≤100000) (hd:Cd w) (hf : ¬ (t.1 < 1∨9 < t.1)) (hv0:0≤t.2.1) (hm0:0≤t.2.2) (hv1:t.2.1≤grV t.1) (hm1:t.2.2≤grV t.1) (hb:wholeB t=false) :
    Calls Tryz.prog 105 #[tV t,.slice a l.length cap] w fun e w'=>e=.returned (.string (encT t l))∧Below w.heap.size w w':=by
  have HC:Hid (Calls Tryz.prog 129 #[.int .i64 t.1,.slice a l.length cap] (tx w t) fun e w'=>e=.returned (.int .i64 (codeV t.1 l))∧Below (tx w t).heap.size (tx w t) w'):=code_any t.1 a l cap _ (h.alloc _) hl (hd.alloc _)
  have HB:Hid (∀ w,Calls Tryz.prog 130 #[.int .i64 t.1] w fun e w'=>e=.returned (.int .i64 (szV t.1))∧w'=w):=fun w=>bytesOf_any t.1 w
  have HV:Hid (∀ w,Calls Tryz.prog 106 #[.int .u64 t.2.1,.int .i64 (szV t.1)] w fun e w'=>e=.returned (.string (pb t.2.1 (szV t.1)))∧Below w.heap.size w w'):=fun w=>mput_any _ _ w hf hv0 hv1
  have HM:Hid (∀ w,Calls Tryz.prog 106 #[.int .u64 t.2.2,.int .i64 (szV t.1)] w fun e w'=>e=.returned (.string (pb t.2.2 (szV t.1)))∧Below w.heap.size w w'):=fun w=>mput_any _ _ w hf hm0 hm1
  have HI:Hid (∀ w,Calls Tryz.prog 131 #[tV t] w fun e w'=>e=.returned (.bool false)∧Below w.heap.size w w'):=fun w=>hb ▸ isWhole_any t w
  have H1:Hid (∀ n w,0≤n→n < 256→Calls Tryz.prog 106 #[.int .u64 n,.int .i64 1] w fun e w'=>e=.returned (.string (pb n 1))∧Below w.heap.size w w'):=fun n w h0 h1=>mput1 n w h0 h1
  have H2:Hid (∀ w,Calls Tryz.prog 106 #[.int .u64 32768,.int .i64 2] w fun e w'=>e=.returned (.string (pb 32768 2))∧Below w.heap.size w w'):=fun w=>mput2 32768 w (by omega) (by omega)
  have hps:=pb_size
  have hs:=restT_size t
  have hE:Hid (encT t l=pb 32768 2 ++ pb (2 * codeV t.1 l + 1) 1 ++ pb (restT t).size 1 ++ restT t):=(show _=_ by unfold encT headT;rw [hb];simp only [Bool.false_eq_true,if_false])
  have hR:restT t=pb t.2.1 (szV t.1) ++ pb t.2.2 (szV t.1):=by unfold restT;rw [hb];simp only [Bool.false_eq_true,if_false]
  obtain ⟨z0,z1⟩:=codeV_lt t.1 l
  clear h hl hd hf hv0 hm0 hv1 hm1 hb
  generalize codeV t.1 l=z at *
  generalize encT t l=E at *
  generalize szV t.1=n at *
  rw [hR] at hs
  generalize hRR:restT t=R at *
  clear hRR
  generalize hx:pb t.2.1 n=x at *
  generalize hy:pb t.2.2 n=y at *
  clear hx hy
  subst hR
  have hs2:x.size + y.size≤16:=by rw [ByteArray.size_append] at hs;exact hs
  have cc:=C3.new w t
  obtain ⟨c0,c1,c2⟩:=cc
  go_enter Tryz.func105,Tryz.ntmps105
  go_wp2_with fail
  refine HC.out.mono ?_
  rintro r w1 ⟨rfl,g1⟩
  have k1:=(C3.new w t).below (by simp) g1
  have s1:=Nat.lt_of_lt_of_le (show w.heap.size < (tx w t).heap.size by simp) g1.size
  have b1:Below w.heap.size w w1:=btr (by go_grown) g1 (by simp)
  clear c0 c1 c2 g1
  have k1':=k1
  obtain ⟨c0,c1,c2⟩:=k1'
  go_wp2_with fail
  refine (HB.out _).mono ?_
  rintro r w2 ⟨rfl,rfl⟩
  go_wp2_with fail
  refine (HV.out _).mono ?_
  rintro r w2 ⟨rfl,g2⟩
  have k2:=C3.below (t:=t) k1 s1 g2
  have s2:=Nat.lt_of_lt_of_le s1 g2.size
  have b2:=btr b1 g2 (Nat.le_refl _)
  clear c0 c1 c2 k1 s1 g2 b1
  have k2':=k2
  obtain ⟨c0,c1,c2⟩:=k2'
  go_wp2_with fail
  refine (HI.out _).mono ?_
  rintro r w3 ⟨rfl,g3⟩
  have k3:=C3.below (t:=t) k2 s2 g3
  have b3:=btr b2 g3 (Nat.le_refl _)
  clear c0 c1 c2 k2 s2 g3 b2
  obtain ⟨c0,c1,c2⟩:=k3
  go_wp2_with fail
  refine (HM.out _).mono ?_
  rintro r w4 ⟨rfl,g4⟩
  have b4:=btr b3 g4 (Nat.le_refl _)
  clear c0 c1 c2 g4
  go_wp2_with fail
  refine (H2.out _).mono ?_
  rintro r w5 ⟨rfl,g5⟩
  have b5:=btr b4 g5 (Nat.le_refl _)
  clear g5
  go_wp2_with fail
  refine (H1.out _ _ (by omega) (by omega)).mono ?_
  rintro r w6 ⟨rfl,g6⟩
  have b6:=btr b5 g6 (Nat.le_refl _)
  clear g6
  go_wp2_with fail
  refine (H1.out _ _ (by omega) (by omega)).mono ?_
  rintro r w7 ⟨rfl,g7⟩
  have b7:=btr b6 g7 (Nat.le_refl _)
  clear g7
  go_wp2_with fail
  go_ret
  exact ⟨by rw [hE.out,ByteArray.size_append,Int.natCast_add];rfl,b7⟩
theorem encT_any (t:T) (a:Option Addr) (l:List T) (cap:Nat) (w:World) (h:Ts w a l) (hl:l.length≤100000) (hd:Cd w) (hw:TW t) (hb:behindE t l=0) :
    Calls Tryz.prog 105 #[tV t,.slice a l.length cap] w fun e w'=>e=.returned (.string (encT t l))∧Below w.heap.size w w':=by
  have hF:=fit_of hb
  obtain ⟨n0,n1,n2⟩:=fit_num hF hw
  cases hx:wholeB t with
  | true=>exact encT_true t a l cap w h hl hd hF.fld hw.v0 hw.m0 (by omega) n1 hx
  | false=>exact encT_false t a l cap w h hl hd hF.fld hw.v0 hw.m0 (by omega) n1 hx
structure Rd (w:World) (b:Nat) (s:ByteArray) (e:Int):Prop where
 c0:w.cell? ⟨b,0,none⟩=some (.string s)
 c1:w.cell? ⟨b,1,none⟩=some (.int .i64 e)
 f0:w.frozen? ⟨b,0,none⟩=false
 f1:w.frozen? ⟨b,1,none⟩=false
structure Only (b:Nat) (w w':World):Prop where
 os:w'.os=w.os
 tape:w'.tape=w.tape
 output:w'.output=w.output
 size:w'.heap.size=w.heap.size
 block:∀ k,k≠b→w'.heap[k]? = w.heap[k]?
theorem Only.refl (b:Nat) (w:World):Only b w w:=⟨rfl,rfl,rfl,rfl,fun _ _=>rfl⟩
theorem Only.setCell {b:Nat} {w w':World} (h:Only b w w') (o:Nat) (v:Value):Only b w (w'.setCell ⟨b,o,none⟩ v) :=
 ⟨h.os,h.tape,h.output,by simp [World.setCell,h.size],fun k hk=>(Below.heap_setCell _ _ _ _ hk).trans (h.block k hk)⟩
theorem Only.below {b:Nat} {w w' a:World} (h:Only b w w') (hb:a.heap.size≤b) (g:Below a.heap.size a w):Below a.heap.size a w' :=
 g.trans ⟨h.os,h.tape,h.output,by rw [h.size];exact Nat.le_refl _,fun k hk=>h.block k (by omega)⟩
theorem Rd.only {b c:Nat} {w w':World} {s:ByteArray} {e:Int} (r:Rd w c s e) (h:Only b w w') (hne:c≠b):Rd w' c s e :=
  ⟨(World.cell?_of_block (w:=w) (h.block c hne)).trans r.c0,(World.cell?_of_block (w:=w) (h.block c hne)).trans r.c1,
   (World.frozen?_of_block (w:=w) (h.block c hne)).trans r.f0,(World.frozen?_of_block (w:=w) (h.block c hne)).trans r.f1⟩
theorem Rd.new (w:World) (s:ByteArray) (e:Int) (T:TypeId):Rd (w.alloc (.cells #[.string s,.int .i64 e] T)) w.heap.size s e :=
 ⟨by simp,by simp,by simp,by simp⟩
theorem Rd.set0 {w:World} {b:Nat} {s:ByteArray} {e:Int} (r:Rd w b s e) (s':ByteArray):Rd (w.setCell ⟨b,0,none⟩ (.string s')) b s' e:=by
 obtain ⟨c0,c1,f0,f1⟩:=r
 exact ⟨World.cell?_setCell_same _ _ _ c0,(World.cell?_setCell_other _ _ _ _ (by simp)).trans c1,by simp [f0],by simp [f1]⟩
theorem Rd.set1 {w:World} {b:Nat} {s:ByteArray} {e:Int} (r:Rd w b s e) (e':Int):Rd (w.setCell ⟨b,1,none⟩ (.int .i64 e')) b s e':=by
 obtain ⟨c0,c1,f0,f1⟩:=r
 exact ⟨(World.cell?_setCell_other _ _ _ _ (by simp)).trans c0,World.cell?_setCell_same _ _ _ c1,by simp [f0],by simp [f1]⟩
theorem take_any (b:Nat) (s:ByteArray) (e n:Int) (may:Bool) (w:World) (hm:may=true→0≤n) (r:Rd w b s e) :
    Calls Tryz.prog 82 #[.pointer (some ⟨b,0,none⟩),.int .i64 n,.bool may] w fun x w' =>
      x=.returned (.string (takeV s e n may))∧Rd w' b (takeS s e n may) (takeE s e n may)∧Only b w w':=by
  have r0:=r
  obtain ⟨c0,c1,f0,f1⟩:=r
  by_cases he:e=0
  · subst he
    cases may
    · have v1 : takeV s 0 n false = noB := by simp [takeV]
      have v2:takeS s 0 n false=noB:=by simp [takeS]
      have v3:takeE s 0 n false=1:=by simp [takeE]
      rw [v1,v2,v3]
      clear v1 v2 v3 hm
      go_enter Tryz.func82,Tryz.ntmps82
      go_wp2
      go_ret
      exact ⟨rfl,(r0.set0 noB).set1 1,((Only.refl _ _).setCell 0 _).setCell 1 _⟩
    · have hn := hm rfl
      by_cases hl:n≤s.size
      · have v1 : takeV s 0 n true = s.extract 0 n.toNat := by simp [takeV, hl]
        have v2:takeS s 0 n true=s.extract n.toNat s.size:=by simp [takeS,hl]
        have v3:takeE s 0 n true=0:=by simp [takeE,hl]
        rw [v1,v2,v3]
        obtain ⟨k,rfl⟩:=Int.eq_ofNat_of_zero_le hn
        clear v1 v2 v3 hm hn
        go_enter Tryz.func82,Tryz.ntmps82
        go_wp2
        go_ret
        exact ⟨rfl,r0.set0 _,(Only.refl _ _).setCell 0 _⟩
      · have v1 : takeV s 0 n true = noB := by simp [takeV, hl]
        have v2:takeS s 0 n true=noB:=by simp [takeS,hl]
        have v3:takeE s 0 n true=10:=by simp [takeE,hl]
        rw [v1,v2,v3]
        clear v1 v2 v3 hm
        go_enter Tryz.func82,Tryz.ntmps82
        go_wp2
        go_ret
        exact ⟨rfl,(r0.set0 noB).set1 10,((Only.refl _ _).setCell 0 _).setCell 1 _⟩
  · have v1 : takeV s e n may = noB := by simp [takeV, he]
    have v2:takeS s e n may=s:=by simp [takeS,he]
    have v3:takeE s e n may=e:=by simp [takeE,he]
    rw [v1,v2,v3]
    have hb:(e != 0)=true:=by simp [he]
    clear v1 v2 v3 hm he
    go_enter Tryz.func82,Tryz.ntmps82
    go_wp2
    go_ret
    exact ⟨rfl,r0,Only.refl _ _⟩
theorem number_any (s:ByteArray) (w:World) (hs:s.size≤maxLen) :
    Calls Tryz.prog 81 #[.string s] w fun x w'=>x=.returned (.int .u64 (numOf s.data.toList))∧w'=w:=by
  unfold maxLen at hs
  go_enter Tryz.func81,Tryz.ntmps81
  go_wp2
  go_loop [3,7] (fun n i=>∃ k:Nat,k≤s.size∧i=.int .i64 k∧n=.int .u64 (numOf (s.data.toList.take k))) (fun _ i=>s.size - (intOf i).toNat)
  case atStart=>exact ⟨0,Nat.zero_le _,rfl,rfl⟩
  case round =>
    obtain ⟨k,hk,rfl,rfl⟩:=hrel
    by_cases hlt:k < s.size
    · have HS : Hid (numOf (s.data.toList.take (k + 1)) = stepN (numOf (s.data.toList.take k)) s[k]) := numOf_take s k hlt
      go_wp2
      go_round
      case rel=>exact ⟨k + 1,by omega,by go_num,by rw [HS.out];rfl⟩
      case measure=>simp [intOf];omega
    · go_wp2
      go_ret
      exact ⟨ret_int (by rw [List.take_of_length_le (by simp;omega)]),rfl⟩
theorem num_any (b:Nat) (s:ByteArray) (e n:Int) (w:World) (hs:s.size≤maxLen) (r:Rd w b s e) :
    Calls Tryz.prog 46 #[.pointer (some ⟨b,0,none⟩),.int .i64 n] w fun x w' =>
      x=.returned (.int .u64 (numV s e n))∧Rd w' b (takeS s e n (szB n)) (takeE s e n (szB n))∧Only b w w':=by
  have hp:szB n=true→0≤n:=by unfold szB;simp;omega
  have HP:Hid (szB n=true→0≤n):=hp
  clear hp
  go_enter Tryz.func46,Tryz.ntmps46
  go_wp2_with fail
  refine (isSize_any _ _).mono ?_
  rintro x w' ⟨rfl,rfl⟩
  go_wp2_with fail
  refine (take_any b s e n (szB n) _ HP.out r).mono ?_
  rintro x w1 ⟨rfl,r1,o1⟩
  go_wp2_with fail
  refine (number_any _ _ (Nat.le_trans (takeV_size _ _ _ _) hs)).mono ?_
  rintro x w2 ⟨rfl,rfl⟩
  go_wp2_with fail
  go_ret
  exact ⟨rfl,r1,o1⟩
theorem left_any (b:Nat) (s:ByteArray) (e:Int) (w:World) (r:Rd w b s e) :
    Calls Tryz.prog 83 #[.pointer (some ⟨b,0,none⟩)] w fun x w'=>x=.returned (.int .i64 s.size)∧w'=w:=by
  obtain ⟨c0,c1,f0,f1⟩:=r
  go_enter Tryz.func83,Tryz.ntmps83
  go_wp2
  go_ret
  exact ⟨rfl,rfl⟩
theorem read_any (s:ByteArray) (w:World) :
    Calls Tryz.prog 45 #[.string s] w fun x w'=>x=.returned (.pointer (some ⟨w.heap.size,0,none⟩))∧w'=w.alloc (.cells #[.string s,.int .i64 0] 121):=by
  go_enter Tryz.func45,Tryz.ntmps45
  go_wp2
  go_ret
  exact ⟨rfl,rfl⟩
theorem numR (b:Nat) (r:RS) (n:Int) (w:World) (hs:r.s.size≤maxLen) (h:Rd w b r.s r.e) :
  Calls Tryz.prog 46 #[.pointer (some ⟨b,0,none⟩),.int .i64 n] w fun x w'=>x=.returned (.int .u64 (r.num n))∧Rd w' b (r.skip n).s (r.skip n).e∧Only b w w':=num_any b r.s r.e n w hs h
def fieldGo:List (Int × Int × Int)→Int→Int
 | [],_=>0
 | c :: r,n=>if c.2.2=n then c.1 else fieldGo r n
def fieldV (n:Int):Int:=fieldGo tb n
theorem fieldOf_any (n:Int) (w:World) (hd:Cd w) :
    Calls Tryz.prog 152 #[.int .i64 n] w fun e w'=>e=.returned (.int .i64 (fieldV n))∧Below w.heap.size w w':=by
  unfold fieldV
  obtain ⟨ct,cfr,hd⟩:=hd
  go_enter Tryz.func152,Tryz.ntmps152
  go_wp2_with (refine wpList_load_row rfl 181 (.global 2) rfl 2 rfl ct codesA cfr _ hd Tryz.underlying181 rfl (by kernel_rfl) ?_)
  clear hd
  go_loopw [6] (fun i wr=>∃ k:Int,0≤k∧k≤11∧i=.int .i64 k∧fieldGo tb n=fieldGo (tb.drop k.toNat) n∧Below w.heap.size w wr) (fun i _=>11 - (intOf i).toNat)
  case atStart=>exact ⟨0,by omega,by omega,rfl,rfl,by go_grown⟩
  case round =>
    obtain ⟨k,hk0,hk,rfl,hr,hbel⟩:=hrel
    have hcl:k=0∨k=1∨k=2∨k=3∨k=4∨k=5∨k=6∨k=7∨k=8∨k=9∨k=10∨k=11:=by omega
    rcases hcl with rfl | rfl | rfl | rfl | rfl | rfl | rfl | rfl | rfl | rfl | rfl | rfl
    · have hx := idx0
      have hr':fieldGo tb n=if (0:Int)=n then 1 else fieldGo (tb.drop 1) n:=hr
      cases hf:((0:Int) == n)
      · have hne : ¬ (0 : Int) = n := by simpa using hf
        have HR:Hid (fieldGo tb n=fieldGo (tb.drop 1) n):=(show _=_ by rw [hr',if_neg hne])
        clear hr hr' hne
        go_wp2_with fail
        go_roundw
        case rel=>exact ⟨1,by omega,by omega,by go_num,HR.out,hbel.alloc hbel.size _⟩
        case measure=>simp [intOf]
      · have hne : (0 : Int) = n := by simpa using hf
        have HR:Hid (fieldGo tb n=1):=(show _=_ by rw [hr',if_pos hne])
        clear hr hr' hne
        go_wp2_with fail
        go_ret
        exact ⟨by rw [HR.out];rfl,hbel.alloc hbel.size _⟩
    · have hx := idx1
      have hr':fieldGo tb n=if (2:Int)=n then 2 else fieldGo (tb.drop 2) n:=hr
      cases hf:((2:Int) == n)
      · have hne : ¬ (2 : Int) = n := by simpa using hf
        have HR:Hid (fieldGo tb n=fieldGo (tb.drop 2) n):=(show _=_ by rw [hr',if_neg hne])
        clear hr hr' hne
        go_wp2_with fail
        go_roundw
        case rel=>exact ⟨2,by omega,by omega,by go_num,HR.out,hbel.alloc hbel.size _⟩
        case measure=>simp [intOf]
      · have hne : (2 : Int) = n := by simpa using hf
        have HR:Hid (fieldGo tb n=2):=(show _=_ by rw [hr',if_pos hne])
        clear hr hr' hne
        go_wp2_with fail
        go_ret
        exact ⟨by rw [HR.out];rfl,hbel.alloc hbel.size _⟩
    · have hx := idx2
      have hr':fieldGo tb n=if (5:Int)=n then 4 else fieldGo (tb.drop 3) n:=hr
      cases hf:((5:Int) == n)
      · have hne : ¬ (5 : Int) = n := by simpa using hf
        have HR:Hid (fieldGo tb n=fieldGo (tb.drop 3) n):=(show _=_ by rw [hr',if_neg hne])
        clear hr hr' hne
        go_wp2_with fail
        go_roundw
        case rel=>exact ⟨3,by omega,by omega,by go_num,HR.out,hbel.alloc hbel.size _⟩
        case measure=>simp [intOf]
      · have hne : (5 : Int) = n := by simpa using hf
        have HR:Hid (fieldGo tb n=4):=(show _=_ by rw [hr',if_pos hne])
        clear hr hr' hne
        go_wp2_with fail
        go_ret
        exact ⟨by rw [HR.out];rfl,hbel.alloc hbel.size _⟩
    · have hx := idx3
      have hr':fieldGo tb n=if (6:Int)=n then 3 else fieldGo (tb.drop 4) n:=hr
      cases hf:((6:Int) == n)
      · have hne : ¬ (6 : Int) = n := by simpa using hf
        have HR:Hid (fieldGo tb n=fieldGo (tb.drop 4) n):=(show _=_ by rw [hr',if_neg hne])
        clear hr hr' hne
        go_wp2_with fail
        go_roundw
        case rel=>exact ⟨4,by omega,by omega,by go_num,HR.out,hbel.alloc hbel.size _⟩
        case measure=>simp [intOf]
      · have hne : (6 : Int) = n := by simpa using hf
        have HR:Hid (fieldGo tb n=3):=(show _=_ by rw [hr',if_pos hne])
        clear hr hr' hne
        go_wp2_with fail
        go_ret
        exact ⟨by rw [HR.out];rfl,hbel.alloc hbel.size _⟩
    · have hx := idx4
      have hr':fieldGo tb n=if (10:Int)=n then 7 else fieldGo (tb.drop 5) n:=hr
      cases hf:((10:Int) == n)
      · have hne : ¬ (10 : Int) = n := by simpa using hf
        have HR:Hid (fieldGo tb n=fieldGo (tb.drop 5) n):=(show _=_ by rw [hr',if_neg hne])
        clear hr hr' hne
        go_wp2_with fail
        go_roundw
        case rel=>exact ⟨5,by omega,by omega,by go_num,HR.out,hbel.alloc hbel.size _⟩
        case measure=>simp [intOf]
      · have hne : (10 : Int) = n := by simpa using hf
        have HR:Hid (fieldGo tb n=7):=(show _=_ by rw [hr',if_pos hne])
        clear hr hr' hne
        go_wp2_with fail
        go_ret
        exact ⟨by rw [HR.out];rfl,hbel.alloc hbel.size _⟩
    · have hx := idx5
      have hr':fieldGo tb n=if (11:Int)=n then 5 else fieldGo (tb.drop 6) n:=hr
      cases hf:((11:Int) == n)
      · have hne : ¬ (11 : Int) = n := by simpa using hf
        have HR:Hid (fieldGo tb n=fieldGo (tb.drop 6) n):=(show _=_ by rw [hr',if_neg hne])
        clear hr hr' hne
        go_wp2_with fail
        go_roundw
        case rel=>exact ⟨6,by omega,by omega,by go_num,HR.out,hbel.alloc hbel.size _⟩
        case measure=>simp [intOf]
      · have hne : (11 : Int) = n := by simpa using hf
        have HR:Hid (fieldGo tb n=5):=(show _=_ by rw [hr',if_pos hne])
        clear hr hr' hne
        go_wp2_with fail
        go_ret
        exact ⟨by rw [HR.out];rfl,hbel.alloc hbel.size _⟩
    · have hx := idx6
      have hr':fieldGo tb n=if (12:Int)=n then 6 else fieldGo (tb.drop 7) n:=hr
      cases hf:((12:Int) == n)
      · have hne : ¬ (12 : Int) = n := by simpa using hf
        have HR:Hid (fieldGo tb n=fieldGo (tb.drop 7) n):=(show _=_ by rw [hr',if_neg hne])
        clear hr hr' hne
        go_wp2_with fail
        go_roundw
        case rel=>exact ⟨7,by omega,by omega,by go_num,HR.out,hbel.alloc hbel.size _⟩
        case measure=>simp [intOf]
      · have hne : (12 : Int) = n := by simpa using hf
        have HR:Hid (fieldGo tb n=6):=(show _=_ by rw [hr',if_pos hne])
        clear hr hr' hne
        go_wp2_with fail
        go_ret
        exact ⟨by rw [HR.out];rfl,hbel.alloc hbel.size _⟩
    · have hx := idx7
      have hr':fieldGo tb n=if (13:Int)=n then 8 else fieldGo (tb.drop 8) n:=hr
      cases hf:((13:Int) == n)
      · have hne : ¬ (13 : Int) = n := by simpa using hf
        have HR:Hid (fieldGo tb n=fieldGo (tb.drop 8) n):=(show _=_ by rw [hr',if_neg hne])
        clear hr hr' hne
        go_wp2_with fail
        go_roundw
        case rel=>exact ⟨8,by omega,by omega,by go_num,HR.out,hbel.alloc hbel.size _⟩
        case measure=>simp [intOf]
      · have hne : (13 : Int) = n := by simpa using hf
        have HR:Hid (fieldGo tb n=8):=(show _=_ by rw [hr',if_pos hne])
        clear hr hr' hne
        go_wp2_with fail
        go_ret
        exact ⟨by rw [HR.out];rfl,hbel.alloc hbel.size _⟩
    · have hx := idx8
      have hr':fieldGo tb n=if (14:Int)=n then 9 else fieldGo (tb.drop 9) n:=hr
      cases hf:((14:Int) == n)
      · have hne : ¬ (14 : Int) = n := by simpa using hf
        have HR:Hid (fieldGo tb n=fieldGo (tb.drop 9) n):=(show _=_ by rw [hr',if_neg hne])
        clear hr hr' hne
        go_wp2_with fail
        go_roundw
        case rel=>exact ⟨9,by omega,by omega,by go_num,HR.out,hbel.alloc hbel.size _⟩
        case measure=>simp [intOf]
      · have hne : (14 : Int) = n := by simpa using hf
        have HR:Hid (fieldGo tb n=9):=(show _=_ by rw [hr',if_pos hne])
        clear hr hr' hne
        go_wp2_with fail
        go_ret
        exact ⟨by rw [HR.out];rfl,hbel.alloc hbel.size _⟩
    · have hx := idx9
      have hr':fieldGo tb n=if (15:Int)=n then 8 else fieldGo (tb.drop 10) n:=hr
      cases hf:((15:Int) == n)
      · have hne : ¬ (15 : Int) = n := by simpa using hf
        have HR:Hid (fieldGo tb n=fieldGo (tb.drop 10) n):=(show _=_ by rw [hr',if_neg hne])
        clear hr hr' hne
        go_wp2_with fail
        go_roundw
        case rel=>exact ⟨10,by omega,by omega,by go_num,HR.out,hbel.alloc hbel.size _⟩
        case measure=>simp [intOf]
      · have hne : (15 : Int) = n := by simpa using hf
        have HR:Hid (fieldGo tb n=8):=(show _=_ by rw [hr',if_pos hne])
        clear hr hr' hne
        go_wp2_with fail
        go_ret
        exact ⟨by rw [HR.out];rfl,hbel.alloc hbel.size _⟩
    · have hx := idx10
      have hr':fieldGo tb n=if (16:Int)=n then 9 else fieldGo (tb.drop 11) n:=hr
      cases hf:((16:Int) == n)
      · have hne : ¬ (16 : Int) = n := by simpa using hf
        have HR:Hid (fieldGo tb n=fieldGo (tb.drop 11) n):=(show _=_ by rw [hr',if_neg hne])
        clear hr hr' hne
        go_wp2_with fail
        go_roundw
        case rel=>exact ⟨11,by omega,by omega,by go_num,HR.out,hbel.alloc hbel.size _⟩
        case measure=>simp [intOf]
      · have hne : (16 : Int) = n := by simpa using hf
        have HR:Hid (fieldGo tb n=9):=(show _=_ by rw [hr',if_pos hne])
        clear hr hr' hne
        go_wp2_with fail
        go_ret
        exact ⟨by rw [HR.out];rfl,hbel.alloc hbel.size _⟩
    · have e : fieldGo tb n = 0 := hr
      go_wp2_with fail
      go_ret
      exact ⟨by rw [e];rfl,hbel⟩
theorem Rd.below {w w':World} {b:Nat} {s:ByteArray} {e:Int} (r:Rd w b s e) (hb:b < w.heap.size) (g:Below w.heap.size w w'):Rd w' b s e :=
 ⟨(g.cell (p:=⟨b,0,none⟩) hb).trans r.c0,(g.cell (p:=⟨b,1,none⟩) hb).trans r.c1,(g.frozen (p:=⟨b,0,none⟩) hb).trans r.f0,(g.frozen (p:=⟨b,1,none⟩) hb).trans r.f1⟩
theorem saidSize_any (s:ByteArray) (w:World) (hs:s.size≤maxLen) :
    Calls Tryz.prog 114 #[.string s] w fun e w'=>e=.returned (.int .i64 (((⟨s,0⟩:RS).skip 2).num 2))∧Below w.heap.size w w':=by
  have hlt:=RS.num_lt ((⟨s,0⟩:RS).skip 2) 2 (by omega)
  have h0:0≤((⟨s,0⟩:RS).skip 2).num 2:=by simpa using hlt.1
  have h1:((⟨s,0⟩:RS).skip 2).num 2 < 65536:=by simpa using hlt.2
  have hsz:=RS.skip_size (⟨s,0⟩:RS) 2
  have HR:Hid (∀ w,Calls Tryz.prog 45 #[.string s] w fun x w'=>x=.returned (.pointer (some ⟨w.heap.size,0,none⟩))∧w'=w.alloc (.cells #[.string s,.int .i64 0] 121)):=fun w=>read_any s w
  go_enter Tryz.func114,Tryz.ntmps114
  go_wp2_with fail
  refine (HR.out _).mono ?_
  rintro x w1 ⟨rfl,rfl⟩
  go_wp2_with fail
  refine (numR w.heap.size (⟨s,0⟩:RS) 2 _ hs (Rd.new w s 0 _)).mono ?_
  rintro x w2 ⟨rfl,r2,o2⟩
  go_wp2_with fail
  refine (numR w.heap.size ((⟨s,0⟩:RS).skip 2) 2 _ (Nat.le_trans hsz hs) r2).mono ?_
  rintro x w3 ⟨rfl,r3,o3⟩
  generalize hz:((⟨s,0⟩:RS).skip 2).num 2=z at *
  go_wp2_with fail
  go_ret
  exact ⟨by rw [hz];rfl,o3.below (Nat.le_refl _) (o2.below (Nat.le_refl _) (by go_grown))⟩
structure W3 (w:World) (b:Nat) (t:T):Prop where
 c:C3 w b 0 t
 f:∀ o,w.frozen? ⟨b,o,none⟩=false
theorem W3.block {w w':World} {b:Nat} {t:T} (h:W3 w b t) (g:w'.heap[b]? = w.heap[b]?):W3 w' b t :=
 ⟨h.c.block g,fun o=>(World.frozen?_of_block (w:=w) g).trans (h.f o)⟩
theorem W3.new (w:World) (t:T):W3 (tx w t) w.heap.size t:=⟨C3.new w t,by simp [tx]⟩
theorem W3.set0 {w:World} {b:Nat} {t:T} (h:W3 w b t) (x:Int):W3 (w.setCell ⟨b,0,none⟩ (.int .i64 x)) b (x,t.2.1,t.2.2):=by
 obtain ⟨⟨c0,c1,c2⟩,f⟩:=h
 exact ⟨⟨World.cell?_setCell_same _ _ _ c0,(World.cell?_setCell_other _ _ _ _ (by simp)).trans c1,(World.cell?_setCell_other _ _ _ _ (by simp)).trans c2⟩,fun o=>by simp [f]⟩
theorem W3.set1 {w:World} {b:Nat} {t:T} (h:W3 w b t) (x:Int):W3 (w.setCell ⟨b,1,none⟩ (.int .u64 x)) b (t.1,x,t.2.2):=by
 obtain ⟨⟨c0,c1,c2⟩,f⟩:=h
 exact ⟨⟨(World.cell?_setCell_other _ _ _ _ (by simp)).trans c0,World.cell?_setCell_same _ _ _ c1,(World.cell?_setCell_other _ _ _ _ (by simp)).trans c2⟩,fun o=>by simp [f]⟩
theorem W3.set2 {w:World} {b:Nat} {t:T} (h:W3 w b t) (x:Int):W3 (w.setCell ⟨b,2,none⟩ (.int .u64 x)) b (t.1,t.2.1,x):=by
 obtain ⟨⟨c0,c1,c2⟩,f⟩:=h
 exact ⟨⟨(World.cell?_setCell_other _ _ _ _ (by simp)).trans c0,(World.cell?_setCell_other _ _ _ _ (by simp)).trans c1,World.cell?_setCell_same _ _ _ c2⟩,fun o=>by simp [f]⟩
structure Gro (b:Nat) (w w':World):Prop where
 os:w'.os=w.os
 tape:w'.tape=w.tape
 output:w'.output=w.output
 size:w.heap.size≤w'.heap.size
 block:∀ k,k < w.heap.size→k≠b→w'.heap[k]? = w.heap[k]?
theorem Gro.refl (b:Nat) (w:World):Gro b w w:=⟨rfl,rfl,rfl,Nat.le_refl _,fun _ _ _=>rfl⟩
theorem Gro.trans {b:Nat} {x y z:World} (h:Gro b x y) (g:Gro b y z):Gro b x z :=
 ⟨g.os.trans h.os,g.tape.trans h.tape,g.output.trans h.output,Nat.le_trans h.size g.size,fun k hk hb=>(g.block k (Nat.lt_of_lt_of_le hk h.size) hb).trans (h.block k hk hb)⟩
theorem Gro.only {b:Nat} {w w':World} (h:Only b w w'):Gro b w w':=⟨h.os,h.tape,h.output,Nat.le_of_eq h.size.symm,fun k _ hb=>h.block k hb⟩
theorem Gro.ofBelow {b:Nat} {w w':World} (h:Below w.heap.size w w'):Gro b w w':=⟨h.os,h.tape,h.output,h.size,fun k hk _=>h.block k hk⟩
theorem Gro.set {b c:Nat} {x y:World} (h:Gro b x y) (hc:x.heap.size≤c) (o:Nat) (v:Value):Gro b x (y.setCell ⟨c,o,none⟩ v) :=
 ⟨h.os,h.tape,h.output,by simpa [World.setCell] using h.size,fun k hk hb=>(Below.heap_setCell _ _ _ _ (show k≠c by omega)).trans (h.block k hk hb)⟩
theorem Gro.below {b:Nat} {a w w':World} (h:Gro b w w') (g:Below a.heap.size a w) (hb:a.heap.size≤b):Below a.heap.size a w' :=
 g.trans ⟨h.os,h.tape,h.output,h.size,fun k hk=>h.block k (Nat.lt_of_lt_of_le hk g.size) (by omega)⟩
theorem Rd.set {w:World} {b c:Nat} {s:ByteArray} {e:Int} (r:Rd w b s e) (hne:b≠c) (o:Nat) (v:Value):Rd (w.setCell ⟨c,o,none⟩ v) b s e:=by
 have g:(w.setCell ⟨c,o,none⟩ v).heap[b]? = w.heap[b]?:=Below.heap_setCell _ _ _ _ hne
 exact ⟨(World.cell?_of_block (w:=w) g).trans r.c0,(World.cell?_of_block (w:=w) g).trans r.c1,(World.frozen?_of_block (w:=w) g).trans r.f0,(World.frozen?_of_block (w:=w) g).trans r.f1⟩
def hdR (r:RS):Int:=(r.skip 2).num 1
def r3R (r:RS):RS:=((r.skip 2).skip 1).skip 1
def fR (r:RS):Int:=fieldV (hdR r / 2)
def readT (r:RS):T:=(fR r,(r3R r).num (szV (fR r)),if hdR r % 2=1 then ((r3R r).skip (szV (fR r))).num (szV (fR r)) else grV (fR r))
def restR (r:RS):RS:=if hdR r % 2=1 then ((r3R r).skip (szV (fR r))).skip (szV (fR r)) else (r3R r).skip (szV (fR r))
theorem readTest_odd (b:Nat) (r:RS) (w:World) (hs:r.s.size≤maxLen) (h:Rd w b r.s r.e) (hb:b < w.heap.size) (hd:Cd w) (hb0:b≠2) (hh:(hdR r % 2 == 1)=true) :
    Calls Tryz.prog 136 #[.pointer (some ⟨b,0,none⟩)] w fun e w'=>e=.returned (tV (readT r))∧Rd w' b (restR r).s (restR r).e∧Gro b w w':=by
  have z1:r.s.size≤maxLen:=hs
  have z2:=Nat.le_trans (RS.skip_size r 2) z1
  have z3:=Nat.le_trans (RS.skip_size (r.skip 2) 1) z2
  have z4:(r3R r).s.size≤maxLen:=Nat.le_trans (RS.skip_size ((r.skip 2).skip 1) 1) z3
  have z5:=Nat.le_trans (RS.skip_size (r3R r) (szV (fR r))) z4
  have hlt:=RS.num_lt (r.skip 2) 1 (by omega)
  have h0:0≤hdR r:=by simpa [hdR] using hlt.1
  have h1:hdR r < 256:=by simpa [hdR] using hlt.2
  have HF:Hid (∀ w,Cd w→Calls Tryz.prog 152 #[.int .i64 (hdR r / 2)] w fun e w'=>e=.returned (.int .i64 (fR r))∧Below w.heap.size w w'):=fun w hd=>fieldOf_any _ w hd
  have HB:Hid (∀ w,Calls Tryz.prog 130 #[.int .i64 (fR r)] w fun e w'=>e=.returned (.int .i64 (szV (fR r)))∧w'=w):=fun w=>bytesOf_any _ w
  have HG:Hid (∀ w,Calls Tryz.prog 153 #[.int .i64 (fR r)] w fun e w'=>e=.returned (.int .u64 (grV (fR r)))∧w'=w):=fun w=>greatest_any _ w
  have HT:Hid (readT r=(fR r,(r3R r).num (szV (fR r)),((r3R r).skip (szV (fR r))).num (szV (fR r)))):=(show _=_ by
    have:hdR r % 2=1:=by simpa using hh
    unfold readT;rw [if_pos this])
  have HRR:Hid (restR r=((r3R r).skip (szV (fR r))).skip (szV (fR r))):=(show _=_ by
    have:hdR r % 2=1:=by simpa using hh
    unfold restR;rw [if_pos this])
  have g0:Gro b w (tx w (0,0,0)):=Gro.ofBelow (by go_grown)
  have d0:=W3.new w (0,0,0)
  have n0:w.heap.size≠b:=by omega
  go_enter Tryz.func136,Tryz.ntmps136
  go_wp2_with fail
  refine (numR b r 2 _ z1 (h.below hb (by go_grown))).mono ?_
  rintro x w1 ⟨rfl,r1,o1⟩
  go_wp2_with fail
  refine (numR b (r.skip 2) 1 _ z2 r1).mono ?_
  rintro x w2 ⟨rfl,r2,o2⟩
  go_wp2_with fail
  refine (numR b ((r.skip 2).skip 1) 1 _ z3 r2).mono ?_
  rintro x w3 ⟨rfl,r3,o3⟩
  have g3:=((g0.trans (Gro.only o1)).trans (Gro.only o2)).trans (Gro.only o3)
  have d3:W3 w3 w.heap.size (0,0,0):=((d0.block (o1.block _ n0)).block (o2.block _ n0)).block (o3.block _ n0)
  have cd3:Cd w3:=by
    have hp:=hd.pos
    obtain ⟨ct,cf,hc⟩:=hd
    exact ⟨ct,cf,(g3.block 2 (by omega) (Ne.symm hb0)).trans hc⟩
  have s3:w3.heap.size=w.heap.size + 1:=by rw [o3.size,o2.size,o1.size];simp
  have e3:(⟨((r.skip 2).skip 1).s,((r.skip 2).skip 1).e⟩:RS).skip 1=r3R r:=rfl
  rw [show (r.skip 2).num 1=hdR r from rfl]
  clear o1 o2 o3 r1 r2 g0 d0
  generalize hdR r=hx at *
  go_wp2_with fail
  refine (HF.out _ cd3).mono ?_
  rintro x w4 ⟨rfl,g4⟩
  have gg4:=g3.trans (Gro.ofBelow g4)
  have d4:=d3.block (g4.block _ (by omega))
  have r4:Rd w4 b (r3R r).s (r3R r).e:=Rd.below (s:=(r3R r).s) (e:=(r3R r).e) r3 (by omega) g4
  have s4:w.heap.size + 1≤w4.heap.size:=by have:=g4.size;omega
  clear g3 d3 cd3 g4 r3
  have gg5:=gg4.trans (Gro.ofBelow (b:=b) (show Below w4.heap.size w4 (tx w4 (fR r,0,0)) by go_grown))
  have d5:W3 (tx w4 (fR r,0,0)) w.heap.size (0,0,0):=d4.block (heap_alloc_old w4 _ (by omega))
  have t5:=W3.new w4 (fR r,0,0)
  have r5:Rd (tx w4 (fR r,0,0)) b (r3R r).s (r3R r).e:=r4.below (by omega) (by go_grown)
  clear gg4 d4 r4
  go_wp2_with fail
  refine (HB.out _).mono ?_
  rintro x w5 ⟨rfl,rfl⟩
  have n4:w4.heap.size≠b:=by omega
  have n5:w4.heap.size≠w.heap.size:=by omega
  go_wp2_with fail
  refine (numR b (r3R r) (szV (fR r)) _ z4 r5).mono ?_
  rintro x w6 ⟨rfl,r6,o6⟩
  have gg6:=gg5.trans (Gro.only o6)
  have d6:=d5.block (o6.block _ n0)
  have t6:=t5.block (o6.block _ n4)
  clear gg5 d5 t5 r5 o6
  obtain ⟨⟨c0,c1,c2⟩,cf⟩:=t6
  have t6:W3 w6 w4.heap.size (fR r,0,0):=⟨⟨c0,c1,c2⟩,cf⟩
  go_wp2_with fail
  have t7:=t6.set1 ((r3R r).num (szV (fR r)))
  have gg7:=gg6.set (show w.heap.size≤w4.heap.size by omega) 1 (.int .u64 ((r3R r).num (szV (fR r))))
  have d7:=d6.block (Below.heap_setCell w6 ⟨w4.heap.size,1,none⟩ (.int .u64 ((r3R r).num (szV (fR r)))) w.heap.size (Ne.symm n5))
  have r7:=r6.set (Ne.symm n4) 1 (.int .u64 ((r3R r).num (szV (fR r))))
  clear t6 gg6 d6 r6 c0 c1 c2 cf
  have t7:W3 (w6.setCell ⟨w4.heap.size,1,none⟩ (.int .u64 ((r3R r).num (szV (fR r))))) w4.heap.size (fR r,(r3R r).num (szV (fR r)),0):=t7
  generalize w6.setCell ⟨w4.heap.size,1,none⟩ (.int .u64 ((r3R r).num (szV (fR r))))=w7 at *
  generalize (r3R r).num (szV (fR r))=V at *
  have t7':=t7
  have d7':=d7
  obtain ⟨⟨c0,c1,c2⟩,cf⟩:=t7'
  obtain ⟨⟨e0,e1,e2⟩,ef⟩:=d7'
  refine (HG.out _).mono ?_
  rintro x w8 ⟨rfl,rfl⟩
  go_wp2_with fail
  have t8:W3 (w8.setCell ⟨w4.heap.size,2,none⟩ (.int .u64 (grV (fR r)))) w4.heap.size (fR r,V,grV (fR r)):=t7.set2 _
  have gg8:=gg7.set (show w.heap.size≤w4.heap.size by omega) 2 (.int .u64 (grV (fR r)))
  have d8:=d7.block (Below.heap_setCell w8 ⟨w4.heap.size,2,none⟩ (.int .u64 (grV (fR r))) w.heap.size (Ne.symm n5))
  have r8:=r7.set (Ne.symm n4) 2 (.int .u64 (grV (fR r)))
  clear c0 c1 c2 cf e0 e1 e2 ef
  refine (numR b ((r3R r).skip (szV (fR r))) (szV (fR r)) _ z5 r8).mono ?_
  rintro x w9 ⟨rfl,r9,o9⟩
  have gg9:=gg8.trans (Gro.only o9)
  have d9:=d8.block (o9.block _ n0)
  have t9:=t8.block (o9.block _ n4)
  clear gg8 d8 t8 r8 o9 t7 gg7 d7 r7
  generalize ((r3R r).skip (szV (fR r))).num (szV (fR r))=M at *
  have t9':=t9
  have d9':=d9
  obtain ⟨⟨c0,c1,c2⟩,cf⟩:=t9'
  obtain ⟨⟨e0,e1,e2⟩,ef⟩:=d9'
  go_wp2_with fail
  have d10:=d9.block (Below.heap_setCell w9 ⟨w4.heap.size,2,none⟩ (.int .u64 M) w.heap.size (Ne.symm n5))
  have d11:W3 _ w.heap.size (fR r,V,M):=((d10.set0 (fR r)).set1 V).set2 M
  refine bodyPost_ret (resT (b:=w.heap.size) (t:=(fR r,V,M)) rfl rfl d11.c) rfl ?_
  refine ⟨by rw [HT.out],?_,?_⟩
  · rw [HRR.out]
    exact (((r9.set (Ne.symm n4) _ _).set (Ne.symm n0) _ _).set (Ne.symm n0) _ _).set (Ne.symm n0) _ _
  · exact (((gg9.set (by omega) _ _).set (Nat.le_refl _) _ _).set (Nat.le_refl _) _ _).set (Nat.le_refl _) _ _
theorem readTest_even (b:Nat) (r:RS) (w:World) (hs:r.s.size≤maxLen) (h:Rd w b r.s r.e) (hb:b < w.heap.size) (hd:Cd w) (hb0:b≠2) (hh:(hdR r % 2 == 1)=false) :
    Calls Tryz.prog 136 #[.pointer (some ⟨b,0,none⟩)] w fun e w'=>e=.returned (tV (readT r))∧Rd w' b (restR r).s (restR r).e∧Gro b w w':=by
  have z1:r.s.size≤maxLen:=hs
  have z2:=Nat.le_trans (RS.skip_size r 2) z1
  have z3:=Nat.le_trans (RS.skip_size (r.skip 2) 1) z2
  have z4:(r3R r).s.size≤maxLen:=Nat.le_trans (RS.skip_size ((r.skip 2).skip 1) 1) z3
  have hlt:=RS.num_lt (r.skip 2) 1 (by omega)
  have h0:0≤hdR r:=by simpa [hdR] using hlt.1
  have h1:hdR r < 256:=by simpa [hdR] using hlt.2
  have HF:Hid (∀ w,Cd w→Calls Tryz.prog 152 #[.int .i64 (hdR r / 2)] w fun e w'=>e=.returned (.int .i64 (fR r))∧Below w.heap.size w w'):=fun w hd=>fieldOf_any _ w hd
  have HB:Hid (∀ w,Calls Tryz.prog 130 #[.int .i64 (fR r)] w fun e w'=>e=.returned (.int .i64 (szV (fR r)))∧w'=w):=fun w=>bytesOf_any _ w
  have HG:Hid (∀ w,Calls Tryz.prog 153 #[.int .i64 (fR r)] w fun e w'=>e=.returned (.int .u64 (grV (fR r)))∧w'=w):=fun w=>greatest_any _ w
  have HT:Hid (readT r=(fR r,(r3R r).num (szV (fR r)),grV (fR r))):=(show _=_ by
    have : ¬ hdR r % 2=1:=by simpa using hh
    unfold readT;rw [if_neg this])
  have HRR:Hid (restR r=(r3R r).skip (szV (fR r))):=(show _=_ by
    have : ¬ hdR r % 2=1:=by simpa using hh
    unfold restR;rw [if_neg this])
  have g0:Gro b w (tx w (0,0,0)):=Gro.ofBelow (by go_grown)
  have d0:=W3.new w (0,0,0)
  have n0:w.heap.size≠b:=by omega
  go_enter Tryz.func136,Tryz.ntmps136
  go_wp2_with fail
  refine (numR b r 2 _ z1 (h.below hb (by go_grown))).mono ?_
  rintro x w1 ⟨rfl,r1,o1⟩
  go_wp2_with fail
  refine (numR b (r.skip 2) 1 _ z2 r1).mono ?_
  rintro x w2 ⟨rfl,r2,o2⟩
  go_wp2_with fail
  refine (numR b ((r.skip 2).skip 1) 1 _ z3 r2).mono ?_
  rintro x w3 ⟨rfl,r3,o3⟩
  have g3:=((g0.trans (Gro.only o1)).trans (Gro.only o2)).trans (Gro.only o3)
  have d3:W3 w3 w.heap.size (0,0,0):=((d0.block (o1.block _ n0)).block (o2.block _ n0)).block (o3.block _ n0)
  have cd3:Cd w3:=by
    have hp:=hd.pos
    obtain ⟨ct,cf,hc⟩:=hd
    exact ⟨ct,cf,(g3.block 2 (by omega) (Ne.symm hb0)).trans hc⟩
  have s3:w3.heap.size=w.heap.size + 1:=by rw [o3.size,o2.size,o1.size];simp
  have e3:(⟨((r.skip 2).skip 1).s,((r.skip 2).skip 1).e⟩:RS).skip 1=r3R r:=rfl
  rw [show (r.skip 2).num 1=hdR r from rfl]
  clear o1 o2 o3 r1 r2 g0 d0
  generalize hdR r=hx at *
  go_wp2_with fail
  refine (HF.out _ cd3).mono ?_
  rintro x w4 ⟨rfl,g4⟩
  have gg4:=g3.trans (Gro.ofBelow g4)
  have d4:=d3.block (g4.block _ (by omega))
  have r4:Rd w4 b (r3R r).s (r3R r).e:=Rd.below (s:=(r3R r).s) (e:=(r3R r).e) r3 (by omega) g4
  have s4:w.heap.size + 1≤w4.heap.size:=by have:=g4.size;omega
  clear g3 d3 cd3 g4 r3
  have gg5:=gg4.trans (Gro.ofBelow (b:=b) (show Below w4.heap.size w4 (tx w4 (fR r,0,0)) by go_grown))
  have d5:W3 (tx w4 (fR r,0,0)) w.heap.size (0,0,0):=d4.block (heap_alloc_old w4 _ (by omega))
  have t5:=W3.new w4 (fR r,0,0)
  have r5:Rd (tx w4 (fR r,0,0)) b (r3R r).s (r3R r).e:=r4.below (by omega) (by go_grown)
  clear gg4 d4 r4
  go_wp2_with fail
  refine (HB.out _).mono ?_
  rintro x w5 ⟨rfl,rfl⟩
  have n4:w4.heap.size≠b:=by omega
  have n5:w4.heap.size≠w.heap.size:=by omega
  go_wp2_with fail
  refine (numR b (r3R r) (szV (fR r)) _ z4 r5).mono ?_
  rintro x w6 ⟨rfl,r6,o6⟩
  have gg6:=gg5.trans (Gro.only o6)
  have d6:=d5.block (o6.block _ n0)
  have t6:=t5.block (o6.block _ n4)
  clear gg5 d5 t5 r5 o6
  obtain ⟨⟨c0,c1,c2⟩,cf⟩:=t6
  have t6:W3 w6 w4.heap.size (fR r,0,0):=⟨⟨c0,c1,c2⟩,cf⟩
  go_wp2_with fail
  have t7:=t6.set1 ((r3R r).num (szV (fR r)))
  have gg7:=gg6.set (show w.heap.size≤w4.heap.size by omega) 1 (.int .u64 ((r3R r).num (szV (fR r))))
  have d7:=d6.block (Below.heap_setCell w6 ⟨w4.heap.size,1,none⟩ (.int .u64 ((r3R r).num (szV (fR r)))) w.heap.size (Ne.symm n5))
  have r7:=r6.set (Ne.symm n4) 1 (.int .u64 ((r3R r).num (szV (fR r))))
  clear t6 gg6 d6 r6 c0 c1 c2 cf
  have t7:W3 (w6.setCell ⟨w4.heap.size,1,none⟩ (.int .u64 ((r3R r).num (szV (fR r))))) w4.heap.size (fR r,(r3R r).num (szV (fR r)),0):=t7
  generalize w6.setCell ⟨w4.heap.size,1,none⟩ (.int .u64 ((r3R r).num (szV (fR r))))=w7 at *
  generalize (r3R r).num (szV (fR r))=V at *
  have t7':=t7
  have d7':=d7
  obtain ⟨⟨c0,c1,c2⟩,cf⟩:=t7'
  obtain ⟨⟨e0,e1,e2⟩,ef⟩:=d7'
  refine (HG.out _).mono ?_
  rintro x w8 ⟨rfl,rfl⟩
  go_wp2_with fail
  have d10:=d7.block (Below.heap_setCell w8 ⟨w4.heap.size,2,none⟩ (.int .u64 (grV (fR r))) w.heap.size (Ne.symm n5))
  have d11:W3 _ w.heap.size (fR r,V,grV (fR r)):=((d10.set0 (fR r)).set1 V).set2 (grV (fR r))
  refine bodyPost_ret (resT (b:=w.heap.size) (t:=(fR r,V,grV (fR r))) rfl rfl d11.c) rfl ?_
  refine ⟨by rw [HT.out],?_,?_⟩
  · rw [HRR.out]
    exact (((r7.set (Ne.symm n4) _ _).set (Ne.symm n0) _ _).set (Ne.symm n0) _ _).set (Ne.symm n0) _ _
  · exact (((gg7.set (by omega) _ _).set (Nat.le_refl _) _ _).set (Nat.le_refl _) _ _).set (Nat.le_refl _) _ _
theorem readTest_any (b:Nat) (r:RS) (w:World) (hs:r.s.size≤maxLen) (h:Rd w b r.s r.e) (hb:b < w.heap.size) (hd:Cd w) (hb0:b≠2) :
    Calls Tryz.prog 136 #[.pointer (some ⟨b,0,none⟩)] w fun e w'=>e=.returned (tV (readT r))∧Rd w' b (restR r).s (restR r).e∧Gro b w w':=by
  cases hh:(hdR r % 2 == 1) with
  | true=>exact readTest_odd b r w hs h hb hd hb0 hh
  | false=>exact readTest_even b r w hs h hb hd hb0 hh
theorem noB_size:noB.size=0:=rfl
def RI (r:RS):Prop:=r.e≠0→r.s.size=0
theorem RI.skip {r:RS} (h:RI r) (n:Int):RI (r.skip n):=by
 unfold RI RS.skip takeS takeE
 by_cases he:r.e=0
 ·by_cases hm:szB n=true
  ·by_cases hn:n≤r.s.size
   ·simp [he,hm,hn]
   ·simp [he,hm,hn,noB_size]
  ·simp [he,hm,noB_size]
 ·have:=h he
  simp [he,this]
theorem RI.rest {r:RS} (h:RI r):RI (restR r):=by
 unfold restR r3R
 split
 ·exact (((((h.skip _).skip _).skip _).skip _).skip _)
 ·exact ((((h.skip _).skip _).skip _).skip _)
theorem skip2_lt {r:RS} (h:RI r) (hp:0 < r.s.size):(r.skip 2).s.size < r.s.size:=by
 have he:r.e=0:=by
  by_cases he:r.e=0
  ·exact he
  ·have:=h he;omega
 unfold RS.skip takeS
 have hm:szB 2=true:=by decide
 by_cases hn:(2:Int)≤r.s.size
 ·simp only [he,hm,hn,and_self,if_true]
  rw [ByteArray.size_extract]
  have:(2:Int).toNat=2:=rfl
  omega
 ·simp only [he,hm,hn,and_false,if_true,if_false]
  rw [noB_size];exact hp
theorem rest_lt {r:RS} (h:RI r) (hp:0 < r.s.size):(restR r).s.size < r.s.size:=by
 have h2:=skip2_lt h hp
 have h3:(r3R r).s.size≤(r.skip 2).s.size:=Nat.le_trans (RS.skip_size _ _) (RS.skip_size _ _)
 unfold restR
 split
 ·exact Nat.lt_of_le_of_lt (Nat.le_trans (RS.skip_size _ _) (Nat.le_trans (RS.skip_size _ _) h3)) h2
 ·exact Nat.lt_of_le_of_lt (Nat.le_trans (RS.skip_size _ _) h3) h2
def readN:Nat→RS→List T
 | 0,_=>[]
 | n + 1,r=>if 0 < r.s.size then readT r :: readN n (restR r) else []
theorem readN_fuel:∀ (k:Nat) (r:RS),RI r→r.s.size≤k→readN k r=readN r.s.size r:=by
  intro k
  induction k using Nat.strongRecOn with
  | ind k ih =>
    intro r hr hk
    cases hs:r.s.size with
    | zero =>
      cases k with
      | zero=>rfl
      | succ k=>simp [readN,hs]
    | succ m =>
      cases k with
      | zero=>omega
      | succ k =>
        have hp:0 < r.s.size:=by omega
        have hl:=rest_lt hr hp
        rw [readN,readN,if_pos hp,if_pos hp,ih k (by omega) (restR r) hr.rest (by omega),← ih m (by omega) (restR r) hr.rest (by omega)]
theorem readN_step {r:RS} (hr:RI r) (hp:0 < r.s.size):readN r.s.size r=readT r :: readN (restR r).s.size (restR r):=by
 obtain ⟨m,hm⟩:∃ m,r.s.size=m + 1:=⟨r.s.size - 1,by omega⟩
 have hl:=rest_lt hr hp
 have e:readN r.s.size r=readN (m + 1) r:=by rw [hm]
 rw [e,readN,if_pos hp,readN_fuel m (restR r) hr.rest (by omega)]
theorem readT_w (r:RS):TW (readT r):=by
 have hz:=szV_le (fR r)
 have p8:∀ q:RS,0≤q.num (szV (fR r))∧q.num (szV (fR r)) < 18446744073709551616:=fun q=>by
  have h:=RS.num_lt q (szV (fR r)) hz
  have h2:=Nat.pow_le_pow_right (show 0 < 256 by decide) hz
  have h3:=Int.ofNat_le.mpr h2
  rw [Int.natCast_pow,Int.natCast_pow] at h3
  exact ⟨h.1,Int.lt_of_lt_of_le h.2 h3⟩
 have hg:=grV_lt (fR r)
 refine ⟨(p8 _).1,(p8 _).2,?_,?_⟩
 ·unfold readT;simp only;split
  ·exact (p8 _).1
  ·exact hg.1
 ·unfold readT;simp only;split
  ·exact (p8 _).2
  ·exact hg.2
theorem readN_w:∀ (k:Nat) (r:RS),TWs (readN k r)
  | 0,_=>by simp [readN,TWs]
  | k + 1, r => by
    unfold readN
    split
    · intro t ht
      rcases List.mem_cons.1 ht with rfl | ht
      · exact readT_w r
      · exact readN_w k _ t ht
    · simp [TWs]
theorem readN_len:∀ (k:Nat) (r:RS),(readN k r).length≤k
  | 0,_=>by simp [readN]
  | k + 1, r => by
    unfold readN
    split
    · rw [List.length_cons];have:=readN_len k (restR r);omega
    · simp
def flat (l:List T):List Value:=l.flatMap fun t=>[.int .i64 t.1,.int .u64 t.2.1,.int .u64 t.2.2]
theorem flat_length:∀ l:List T,(flat l).length=l.length * 3
 | []=>rfl
 | t :: l=>by simp only [flat,List.flatMap_cons,List.length_append,List.length_cons,List.length_nil];have:=flat_length l;unfold flat at this;rw [this];omega
theorem flat_snoc (l:List T) (t:T):flat (l ++ [t])=flat l ++ [.int .i64 t.1,.int .u64 t.2.1,.int .u64 t.2.2]:=by simp [flat]
theorem flat_at:∀ (l:List T) (i:Nat) (h:i < l.length),(flat l)[i * 3]? = some (.int .i64 l[i].1)∧(flat l)[i * 3 + 1]? = some (.int .u64 l[i].2.1)∧(flat l)[i * 3 + 2]? = some (.int .u64 l[i].2.2)
  | t :: l,0,_=>by simp [flat]
  | t :: l, i + 1, h => by
    have ih:=flat_at l i (by simpa using h)
    unfold flat at ih ⊢
    rw [List.flatMap_cons,show (i + 1) * 3=i * 3 + 3 by omega]
    simpa using ih
theorem infoT:(Tryz.prog.info? 131).map (fun i=>(i.zero,i.size,i.bytes))=some (some (.agg #[.int .i64 0,.int .u64 0,.int .u64 0]),3,24):=by kernel_rfl
theorem gro_grown {b:Nat} {x y:World} (g:Gro b x y):x.grownBy y (some b):=⟨g.os,g.tape,g.output,g.size,fun k hk hne=>g.block k hk (fun h=>hne (by rw [h]))⟩
theorem Rd.block {w w':World} {b:Nat} {s:ByteArray} {e:Int} (r:Rd w b s e) (g:w'.heap[b]? = w.heap[b]?):Rd w' b s e :=
 ⟨(World.cell?_of_block (w:=w) g).trans r.c0,(World.cell?_of_block (w:=w) g).trans r.c1,(World.frozen?_of_block (w:=w) g).trans r.f0,(World.frozen?_of_block (w:=w) g).trans r.f1⟩
theorem own_ne {w:World} {base:Nat} {e:TypeId} {size:Nat} {v:Value} {n:Nat} {xs:List Value} {b:Nat} (h:w.ownsRow base e size v n xs) (hb:b < base):v.ownBlock=none∨v.ownBlock≠some b:=by
 cases hv:v.ownBlock with
 | none=>exact .inl rfl
 | some q=>right;intro hq;have:=(h.lt q hv).1;cases hq;omega
def TsF (base:Nat) (w:World) (a:Option Addr) (l:List T):Prop :=
 l=[]∨∃ g,a=some ⟨g,0,none⟩∧base≤g∧g < w.heap.size∧∀ i (h:i < l.length),C3 w g (i * 3) l[i]
theorem TsF.ts {base:Nat} {w:World} {a:Option Addr} {l:List T} (h:TsF base w a l):Ts w a l:=by
 rcases h with h | ⟨g,ha,_,hg,hc⟩
 ·exact .inl h
 ·exact .inr ⟨g,0,ha,hg,fun i hi=>by rw [Nat.zero_add];exact hc i hi⟩
theorem TsF.keep {base:Nat} {w w':World} {a:Option Addr} {l:List T} (h:TsF base w a l) (hz:w.heap.size≤w'.heap.size) (hb:∀ g,base≤g→g < w.heap.size→w'.heap[g]? = w.heap[g]?):TsF base w' a l:=by
 rcases h with h | ⟨g,ha,h0,hg,hc⟩
 ·exact .inl h
 ·exact .inr ⟨g,ha,h0,Nat.lt_of_lt_of_le hg hz,fun i hi=>(hc i hi).block (hb g h0 hg)⟩
theorem TsF.below {B:Nat} {w w':World} {a:Option Addr} {l:List T} (h:TsF B w a l) (g:Below w.heap.size w w'):TsF B w' a l:=h.keep g.size (fun k _ hk=>g.block k hk)
theorem TsF.mono {B C:Nat} {w:World} {a:Option Addr} {l:List T} (h:TsF B w a l) (hc:C≤B):TsF C w a l:=by
 rcases h with h | ⟨g,ha,h0,h1⟩
 ·exact .inl h
 ·exact .inr ⟨g,ha,by omega,h1⟩
theorem own_ts {base:Nat} {w:World} {v:Value} {l:List T} (h:w.ownsRow base 131 3 v l.length (flat l)):∃ a cap,v=.slice a l.length cap∧l.length≤cap∧TsF base w a l:=by
 rcases h.2 with ⟨rfl,h'⟩ | ⟨g,cap,cur,rfl,hbg,_,hnc,_⟩
 ·have hl:l=[]:=List.length_eq_zero_iff.1 h'
  subst hl
  exact ⟨none,0,rfl,Nat.le_refl _,.inl rfl⟩
 ·have hlt:=(h.lt g rfl).2
  have cs:∀ i (hi:i < l.length),C3 w g (i * 3) l[i]:=fun i hi=>by
   obtain ⟨x0,x1,x2⟩:=flat_at l i hi
   refine ⟨?_,?_,?_⟩
   ·rw [h.cellAt (i * 3) (by omega)];exact x0
   ·rw [h.cellAt (i * 3 + 1) (by omega)];exact x1
   ·rw [h.cellAt (i * 3 + 2) (by omega)];exact x2
  exact ⟨some ⟨g,0,none⟩,cap,rfl,hnc,.inr ⟨g,rfl,hbg,hlt,cs⟩⟩
theorem readL_any (s:ByteArray) (w:World) (hs:s.size≤100000) (hd:Cd w) :
    Calls Tryz.prog 115 #[.string s] w fun e w'=>∃ a cap,e=.returned (.slice a (readN s.size ⟨s,0⟩).length cap)∧(readN s.size ⟨s,0⟩).length≤cap∧TsF w.heap.size w' a (readN s.size ⟨s,0⟩)∧Below w.heap.size w w':=by
  have HR:Hid (∀ w,Calls Tryz.prog 45 #[.string s] w fun x w'=>x=.returned (.pointer (some ⟨w.heap.size,0,none⟩))∧w'=w.alloc (.cells #[.string s,.int .i64 0] 121)):=fun w=>read_any s w
  have HT:Hid (∀ (r:RS) (w':World),r.s.size≤100000→Rd w' w.heap.size r.s r.e→w.heap.size < w'.heap.size→Cd w'→Calls Tryz.prog 136 #[.pointer (some ⟨w.heap.size,0,none⟩)] w' fun e w''=>e=.returned (tV (readT r))∧Rd w'' w.heap.size (restR r).s (restR r).e∧Gro w.heap.size w' w''):=fun r w' hz h hb hd'=>readTest_any _ r w' (by unfold maxLen;omega) h hb hd' (by have:=hd.pos;omega)
  obtain ⟨i0,hi,hz0,hz1,hz2⟩:=info_parts infoT
  generalize hL:readN s.size ⟨s,0⟩=L
  have hLl:L.length≤100000:=by rw [← hL];exact Nat.le_trans (readN_len _ _) hs
  go_enter Tryz.func115,Tryz.ntmps115
  go_wp2_with fail
  refine (HR.out _).mono ?_
  rintro x w1 ⟨rfl,rfl⟩
  go_wp2_with fail
  go_loopw [3] (fun v wr=>∃ (l:List T) (r:RS),L=l ++ readN r.s.size r∧RI r∧r.s.size≤100000∧Rd wr w.heap.size r.s r.e∧wr.ownsRow (w.heap.size + 1) 131 3 v l.length (flat l)∧w.heap.size < wr.heap.size∧Below w.heap.size w wr)
    (fun _ wr=>match wr.cell? ⟨w.heap.size,0,none⟩ with | some (.string q)=>q.size | _=>0)
  case atStart=>exact ⟨[],⟨s,0⟩,by rw [hL];rfl,fun h=>absurd rfl h,hs,Rd.new w s 0 _,World.ownsRow_nil _ _ _ _,by simp,by go_grown⟩
  case round =>
    obtain ⟨l,r,hl,hri,hrs,hrd,hown,hsz,hbel⟩:=hrel
    have hrd0:=hrd.c0
    by_cases hp:0 < r.s.size
    · have hp' : (r.s.size : Int) > 0 := by omega
      have hstep:=readN_step hri hp
      have HL:Hid (L=(l ++ [readT r]) ++ readN (restR r).s.size (restR r)):=(show _=_ by rw [hl,hstep];simp)
      have hlt:=rest_lt hri hp
      have hll:l.length + 1≤100000:=by
        have:=congrArg List.length HL.out
        simp at this
        omega
      clear hl hstep
      go_wp2_with fail
      refine (left_any _ r.s r.e _ hrd).mono ?_
      rintro x w2 ⟨rfl,rfl⟩
      go_wp2_with fail
      refine (HT.out r _ hrs hrd hsz (hd.below hbel)).mono ?_
      rintro x w3 ⟨rfl,r3,g3⟩
      have hne:=own_ne (b:=w.heap.size) hown (by omega)
      have hown3:=hown.kept (gro_grown g3) hne
      have hbel3:=g3.below hbel (Nat.le_refl _)
      have hsz3:=Nat.lt_of_lt_of_le hsz g3.size
      clear hown hrd hbel hsz g3 hne
      go_wp2_with (at_builtin;refine wpList_append_own _ rfl _ _ 22 rfl (w.heap.size + 1) 131 i0 (.agg #[.int .i64 0,.int .u64 0,.int .u64 0]) 3 24 Tryz.underlying22 hi hz0 hz1 hz2 rfl (by decide) _ _ _ rfl (hown3.alloc _) ⟨w3.heap.size,0,none⟩ 1 1 [.int .i64 (readT r).1,.int .u64 (readT r).2.1,.int .u64 (readT r).2.2] rfl rfl ?c1 ?c2 ?c3 ?c4 ?c5 ?_)
      case c1 =>
        intro j u hj
        match j,hj with
        | 0,hj=>simp at hj;subst hj;simp [Addr.add]
        | 1,hj=>simp at hj;subst hj;simp [Addr.add]
        | 2,hj=>simp at hj;subst hj;simp [Addr.add]
      case c2=>intro u hu;simp at hu;rcases hu with rfl | rfl | rfl <;> rfl
      case c3=>unfold maxLen;omega
      case c4=>omega
      case c5=>simp;omega
      · intro v' w4 hown' hgrow _
        have R1:w4.ownsRow (w.heap.size + 1) 131 3 v' (l ++ [readT r]).length (flat (l ++ [readT r])):=by
          rw [flat_snoc,List.length_append]
          exact hown'
        have hrow:=fun q hq=>(hown3.lt q hq).1
        have R2:Below w.heap.size w w4:=(hbel3.alloc hbel3.size _).grown hgrow (by simp;omega) (fun q hq=>by have:=hrow q hq;omega)
        have R3:Rd w4 w.heap.size (restR r).s (restR r).e:=by
          refine r3.block ?_
          refine (hgrow.block w.heap.size (by simp;omega) (fun h=>by have:=hrow _ h.symm;omega)).trans ?_
          exact heap_alloc_old w3 _ (by omega)
        have R4:w.heap.size < w4.heap.size:=Nat.lt_of_lt_of_le (by simp;omega) hgrow.size
        have hm3:=R3.c0
        clear hown' hgrow hown3 hbel3 hrow r3
        go_wp2
        go_roundw
        case rel=>exact ⟨l ++ [readT r],restR r,HL.out,hri.rest,by omega,R3,R1,R4,R2⟩
        case measure =>
          simp only [hm3,hrd0]
          exact hlt
    · have hz : r.s.size = 0 := by omega
      have hp' : ¬ ((r.s.size:Int) > 0):=by omega
      have hLe:L=l:=by rw [hl,hz];simp [readN]
      subst hLe
      clear hl
      go_wp2_with fail
      refine (left_any _ r.s r.e _ hrd).mono ?_
      rintro x w2 ⟨rfl,rfl⟩
      rcases hown.2 with ⟨rfl,h'⟩ | ⟨g,cap,cur,rfl,hbg,hhg,hnc,_⟩
      · go_wp2_with fail
        go_ret
        refine ⟨none,0,?_,by omega,.inl (List.length_eq_zero_iff.1 h'),hbel⟩
        rw [h'];rfl
      · go_wp2_with fail
        go_ret
        have hlt2:=(hown.lt g rfl).2
        obtain ⟨a',cap',hv,_,hF⟩:=own_ts hown
        simp only [Value.slice.injEq] at hv
        obtain ⟨rfl,_,rfl⟩:=hv
        exact ⟨some ⟨g,0,none⟩,cap,rfl,hnc,hF.mono (by omega),hbel⟩
def noB0:ByteArray:=⟨#[]⟩
def encodeS (l:List T):ByteArray:=if rightE l=0 then encS l else ⟨#[]⟩
theorem bodyGo_at (l:List T) (k:Nat) (h:k < l.length):bodyGo (l.take k) (l.drop k)=encT l[k] (l.take k) ++ bodyGo (l.take (k + 1)) (l.drop (k + 1)):=by
 rw [List.drop_eq_getElem_cons h,bodyGo,take_snoc_get l k h]
theorem right_at (l:List T) (k:Nat) (h:k < l.length) (hr:rightGo (l.take k) (l.drop k)=0):behindE l[k] (l.take k)=0∧rightGo (l.take (k + 1)) (l.drop (k + 1))=0:=by
 rw [List.drop_eq_getElem_cons h,right_cons] at hr
 rw [take_snoc_get l k h]
 exact hr
theorem repeat_list:∀ c:Nat,Lib.repeatL [0] c=List.replicate c (0:UInt8)
 | 0=>rfl
 | c + 1=>by rw [Lib.repeatL,repeat_list c];rfl
theorem repeat_zeros (c:Nat):(⟨(Lib.repeatL [0] c).toArray⟩:ByteArray)=zeros c:=by rw [repeat_list];rfl
theorem encode_bad (a:Option Addr) (l:List T) (cap:Nat) (w:World) (h:Ts w a l) (hl:l.length≤100000) (hc:l.length≤cap) (hr:rightE l≠0) :
    Calls Tryz.prog 72 #[.slice a l.length cap] w fun e w'=>e=.returned (.tuple #[.string ⟨#[]⟩,.int .i64 (rightE l)])∧Below w.heap.size w w':=by
  have HR:Hid (Calls Tryz.prog 96 #[.slice a l.length cap] w fun e w'=>e=.returned (.int .i64 (rightE l))∧Below w.heap.size w w'):=right_any a l cap w h hl hc
  have hb:(rightE l != 0)=true:=by simpa using hr
  clear hr
  generalize rightE l=e at *
  go_enter Tryz.func72,Tryz.ntmps72
  go_wp2_with fail
  refine HR.out.mono ?_
  rintro r w1 ⟨rfl,g1⟩
  go_wp2_with fail
  go_ret2
  exact ⟨rfl,g1⟩
theorem encode_ok (a:Option Addr) (l:List T) (cap:Nat) (w:World) (h:Ts w a l) (hl:l.length≤100000) (hc:l.length≤cap) (hd:Cd w) (hw:TWs l) (hr:rightE l=0) :
    Calls Tryz.prog 72 #[.slice a l.length cap] w fun e w'=>e=.returned (.tuple #[.string (encS l),.int .i64 0])∧Below w.heap.size w w':=by
  have HR:Hid (Calls Tryz.prog 96 #[.slice a l.length cap] w fun e w'=>e=.returned (.int .i64 0)∧Below w.heap.size w w'):=hr ▸ right_any a l cap w h hl hc
  have HB:Hid (∀ t k w,k≤l.length→TW t→behindE t (l.take k)=0→Ts w a l→Cd w→Calls Tryz.prog 105 #[tV t,.slice a k cap] w fun e w'=>e=.returned (.string (encT t (l.take k)))∧Below w.heap.size w w'):=fun t k w hk hw hb h hd=>by
    have hlen:(l.take k).length=k:=by rw [List.length_take];omega
    have:=encT_any t a (l.take k) cap w (h.take k) (by omega) hd hw hb
    rwa [hlen] at this
  have H2:Hid (∀ n w,0≤n→n < 65536→Calls Tryz.prog 106 #[.int .u64 n,.int .i64 2] w fun e w'=>e=.returned (.string (pb n 2))∧Below w.heap.size w w'):=fun n w h0 h1=>mput2 n w h0 h1
  have HP:Hid (∀ n w,0≤n→n≤1000000→Calls Tryz.prog 107 #[.int .i64 n] w fun e w'=>e=.returned (.int .i64 (padV n))∧w'=w):=fun n w h0 h1=>padded_any n w h0 h1
  have HZ:Hid (∀ (c:Nat) w,c≤100000→Calls Tryz.prog 70 #[.string ⟨#[0]⟩,.int .i64 c] w fun e w'=>e=.returned (.string (zeros c))∧Below w.heap.size w w'):=fun c w hc=>by
    have:=Tryz.strings_Repeat ⟨#[0]⟩ c w (by omega) (by show 1 * c≤_;omega)
    rw [show (⟨#[0]⟩:ByteArray).data.toList=[0] from rfl,repeat_zeros c] at this
    exact this
  have hps:=pb_size
  have hlen:=right_short l hr
  go_enter Tryz.func72,Tryz.ntmps72
  go_wp2_with fail
  refine HR.out.mono ?_
  rintro r w1 ⟨rfl,g1⟩
  go_wp2_with fail
  go_loopw [5,16] (fun v i wr=>∃ (k:Nat) (s:ByteArray),k≤l.length∧i=.int .i64 k∧v=.string s∧bodyGo [] l=s ++ bodyGo (l.take k) (l.drop k)∧rightGo (l.take k) (l.drop k)=0∧s.size≤20 * k∧Below w.heap.size w wr) (fun _ i _=>l.length - (intOf i).toNat)
  case atStart=>exact ⟨0,⟨#[]⟩,by omega,rfl,rfl,by apply ba_ext;simp,hr,by simp [ByteArray.size],g1⟩
  case round =>
    obtain ⟨k,s,hk,rfl,rfl,hbody,hgo,hsz,hbel⟩:=hrel
    by_cases hlt:k < l.length
    · have hT := h.below hbel
      obtain ⟨g,o,rfl,hg,hcs⟩:=hT.at hlt
      obtain ⟨c0,c1,c2⟩:=hcs k hlt
      have q:=C3.gr (C3.new wr l[k]) (by simp)
      have q0:=fun n=>(q n).1
      have q1:=fun n=>(q n).2.1
      have q2:=fun n=>(q n).2.2
      clear q
      have hTn:∀ n:GrT (tx wr l[k]),Ts n.w (some ⟨g,o,none⟩) l:=fun n=>((hT.alloc _).below n.h)
      have hDn:∀ n:GrT (tx wr l[k]),Cd n.w:=fun n=>(((hd.below hbel).alloc _).below n.h)
      obtain ⟨hbe,hgo2⟩:=right_at l k hlt hgo
      have hwt:=hw l[k] (List.getElem_mem hlt)
      have HB1:Hid (bodyGo [] l=s ++ encT l[k] (l.take k) ++ bodyGo (l.take (k + 1)) (l.drop (k + 1))):=(show _=_ by rw [hbody,bodyGo_at l k hlt,ap_assoc])
      have hes:=encT_size l[k] (l.take k)
      have hkl:k≤cap:=by omega
      clear hbody hgo
      go_wp2_with fail
      refine wp_region_grow (by kernel_rfl) (by kernel_rfl) ?_
      repeat (go_big_quiet_step (first | (go_at_call 105;exact quiet_gr (HB.out _ _ _ hk hwt hbe (hTn _) (hDn _)))))
      refine wpQuiet_nil ?_
      rintro w2 hw'
      have g2:=gr_elim hw'
      clear hw'
      have g3:Below w.heap.size w w2:=btr (hbel.alloc hbel.size _) g2 (Nat.le_refl _)
      go_wp2_with fail
      go_roundw
      case rel=>exact ⟨k + 1,_,by omega,by go_num,rfl,HB1.out,hgo2,by rw [ByteArray.size_append];omega,g3⟩
      case measure=>simp [intOf];omega
    · have hk' : k = l.length := by omega
      subst hk'
      have e:bodyGo [] l=s:=by
        rw [hbody,List.drop_length,bodyGo]
        apply ba_ext;simp
      have HE:Hid (encS l=pb 1 2 ++ pb (4 + s.size) 2 ++ s ++ zeros (padV (4 + s.size) - (4 + s.size)).toNat):=(show _=_ by unfold encS;rw [e])
      clear hbody hgo e
      have hpv:0≤padV (4 + s.size) - (4 + s.size)∧padV (4 + s.size) - (4 + s.size)≤8:=by unfold padV;omega
      obtain ⟨c,hcc⟩:=Int.eq_ofNat_of_zero_le hpv.1
      have hc8:c≤8:=by omega
      have hzs:(zeros c).size=c:=by simp [zeros,ByteArray.size]
      rw [hcc,Int.toNat_natCast] at HE
      have hpe:padV (4 + s.size)=4 + s.size + c:=by omega
      go_wp2_with fail
      refine (H2.out _ _ (by omega) (by omega)).mono ?_
      rintro r w2 ⟨rfl,g2⟩
      have b2:=btr hbel g2 (Nat.le_refl _)
      clear g2
      go_wp2_with fail
      refine (H2.out _ _ (by omega) (by omega)).mono ?_
      rintro r w3 ⟨rfl,g3⟩
      have b3:=btr b2 g3 (Nat.le_refl _)
      clear g3
      go_wp2_with fail
      refine (HP.out _ _ (by omega) (by omega)).mono ?_
      rintro r w4 ⟨rfl,rfl⟩
      rw [hpe]
      go_wp2_with fail
      rw [show (4 + (s.size:Int) + c - (4 + s.size))=(c:Int) by omega]
      refine (HZ.out c _ (by omega)).mono ?_
      rintro r w5 ⟨rfl,g5⟩
      have b5:=btr b3 g5 (Nat.le_refl _)
      clear g5
      go_wp2_with fail
      go_ret2
      exact ⟨by rw [HE.out];rfl,b5⟩
theorem encode_any (a:Option Addr) (l:List T) (cap:Nat) (w:World) (h:Ts w a l) (hl:l.length≤100000) (hc:l.length≤cap) (hd:Cd w) (hw:TWs l) :
    Calls Tryz.prog 72 #[.slice a l.length cap] w fun e w'=>e=.returned (.tuple #[.string (encodeS l),.int .i64 (rightE l)])∧Below w.heap.size w w':=by
  unfold encodeS
  by_cases hr:rightE l=0
  · rw [if_pos hr,hr];exact encode_ok a l cap w h hl hc hd hw hr
  · rw [if_neg hr];exact encode_bad a l cap w h hl hc hr
theorem readN_half:∀ (k:Nat) (r:RS),RI r→2 * (readN k r).length≤r.s.size + 1
  | 0,_,_=>by simp [readN]
  | k + 1, r, h => by
    unfold readN
    split
    · rename_i hp
      have ih:=readN_half k (restR r) h.rest
      have h2:(restR r).s.size≤(r.skip 2).s.size:=by
        have h3:(r3R r).s.size≤(r.skip 2).s.size:=Nat.le_trans (RS.skip_size _ _) (RS.skip_size _ _)
        unfold restR
        split
        · exact Nat.le_trans (RS.skip_size _ _) (Nat.le_trans (RS.skip_size _ _) h3)
        · exact Nat.le_trans (RS.skip_size _ _) h3
      have h4:(r.skip 2).s.size≤r.s.size - 2:=by
        have he:r.e=0:=by
          by_cases he:r.e=0
          · exact he
          · have:=h he;omega
        unfold RS.skip takeS
        have hm:szB 2=true:=by decide
        by_cases hn:(2:Int)≤r.s.size
        · simp only [he, hm, hn, and_self, if_true]
          rw [ByteArray.size_extract]
          have:(2:Int).toNat=2:=rfl
          omega
        · simp only [he, hm, hn, and_false, if_true, if_false]
          rw [noB_size];omega
      rw [List.length_cons]
      by_cases h1:r.s.size=1
      · have h0 : (restR r).s.size = 0 := by omega
        have e:readN k (restR r)=[]:=by cases k <;> simp [readN,h0]
        rw [e];simp;omega
      · omega
    · simp
def saidV (s:ByteArray):Int:=((⟨s,0⟩:RS).skip 2).num 2
def testsOf (s:ByteArray):List T:=readN (s.extract 4 (saidV s).toNat).size ⟨s.extract 4 (saidV s).toNat,0⟩
def wholeOk (s:ByteArray):Prop:=4≤s.size∧padV (saidV s)≤s.size∧4≤saidV s∧rightE (testsOf s)=0∧encS (testsOf s)=s.extract 0 (padV (saidV s)).toNat
theorem saidV_lt (s:ByteArray):0≤saidV s∧saidV s < 65536:=by
 have hlt:=RS.num_lt ((⟨s,0⟩:RS).skip 2) 2 (by omega)
 exact ⟨by simpa [saidV] using hlt.1,by simpa [saidV] using hlt.2⟩
theorem padV_ge (n:Int):n≤padV n:=by unfold padV;omega
theorem padV_lt (n:Int):padV n≤n + 7:=by unfold padV;omega
theorem slice_lh (s:ByteArray) (i j:Int) (h0:0≤i) (h1:i≤j) (h2:j≤s.size) (w:World):(Instr.slice 9 (.string s) (some (.int .i64 i)) (some (.int .i64 j)) none).run Tryz.prog w=.ok (.string (s.extract i.toNat j.toNat)) w:=by
 rw [run_slice_string_if (h:=Tryz.underlying9),if_pos ⟨by omega,h2⟩,if_pos ⟨h0,h1⟩]
theorem slice_h (s:ByteArray) (j:Int) (h0:0≤j) (h2:j≤s.size) (w:World):(Instr.slice 9 (.string s) none (some (.int .i64 j)) none).run Tryz.prog w=.ok (.string (s.extract 0 j.toNat)) w :=
 by rw [run_slice_string_h (ht:=Tryz.underlying9) (h0:=h0) (h2:=h2)]
def Nope (w:World) (k:Int) (e:Ending) (w':World):Prop:=e=.returned (.tuple #[.slice none 0 0,.int .i64 0,.int .i64 k])∧Below w.heap.size w w'
theorem dec_short (s:ByteArray) (w:World) (h:s.size < 4):Calls Tryz.prog 85 #[.string s] w (Nope w 10):=by
 have h':(s.size:Int) < 4:=by omega
 unfold Nope
 go_enter Tryz.func85,Tryz.ntmps85
 go_wp2_with fail
 go_ret3
 exact ⟨rfl,Below.refl _ _⟩
theorem dec_end (s:ByteArray) (w:World) (hs:s.size≤100000) (h:4≤s.size) (h2:s.size < padV (saidV s)):Calls Tryz.prog 85 #[.string s] w (Nope w 10):=by
 have h' : ¬ ((s.size:Int) < 4):=by omega
 obtain ⟨z0,z1⟩:=saidV_lt s
 have HS:Hid (∀ w,Calls Tryz.prog 114 #[.string s] w fun e w'=>e=.returned (.int .i64 (saidV s))∧Below w.heap.size w w'):=fun w=>saidSize_any s w (by unfold maxLen;omega)
 have HP:Hid (∀ w,Calls Tryz.prog 107 #[.int .i64 (saidV s)] w fun e w'=>e=.returned (.int .i64 (padV (saidV s)))∧w'=w):=fun w=>padded_any _ w z0 (by omega)
 unfold Nope
 generalize saidV s=z at *
 generalize padV z=p at *
 go_enter Tryz.func85,Tryz.ntmps85
 go_wp2_with fail
 refine (HS.out _).mono ?_
 rintro x w1 ⟨rfl,g1⟩
 go_wp2_with fail
 refine (HP.out _).mono ?_
 rintro x w2 ⟨rfl,rfl⟩
 go_wp2_with fail
 go_ret3
 exact ⟨rfl,g1⟩
theorem dec_low (s:ByteArray) (w:World) (hs:s.size≤100000) (h:4≤s.size) (h2:padV (saidV s)≤s.size) (h3:saidV s < 4):Calls Tryz.prog 85 #[.string s] w (Nope w 11):=by
 have h' : ¬ ((s.size:Int) < 4):=by omega
 have h2' : ¬ ((s.size:Int) < padV (saidV s)):=by omega
 obtain ⟨z0,z1⟩:=saidV_lt s
 have HS:Hid (∀ w,Calls Tryz.prog 114 #[.string s] w fun e w'=>e=.returned (.int .i64 (saidV s))∧Below w.heap.size w w'):=fun w=>saidSize_any s w (by unfold maxLen;omega)
 have HP:Hid (∀ w,Calls Tryz.prog 107 #[.int .i64 (saidV s)] w fun e w'=>e=.returned (.int .i64 (padV (saidV s)))∧w'=w):=fun w=>padded_any _ w z0 (by omega)
 unfold Nope
 generalize saidV s=z at *
 generalize padV z=p at *
 go_enter Tryz.func85,Tryz.ntmps85
 go_wp2_with fail
 refine (HS.out _).mono ?_
 rintro x w1 ⟨rfl,g1⟩
 go_wp2_with fail
 refine (HP.out _).mono ?_
 rintro x w2 ⟨rfl,rfl⟩
 go_wp2_with fail
 go_ret3
 exact ⟨rfl,g1⟩
theorem dec_wrong (s:ByteArray) (w:World) (hs:s.size≤100000) (hd:Cd w) (h:4≤s.size) (h2:padV (saidV s)≤s.size) (h3:4≤saidV s) (h4:rightE (testsOf s)≠0):Calls Tryz.prog 85 #[.string s] w (Nope w 11):=by
 have h' : ¬ ((s.size:Int) < 4):=by omega
 have h2' : ¬ ((s.size:Int) < padV (saidV s)):=by omega
 have h3' : ¬ (saidV s < 4):=by omega
 have hpz:=padV_ge (saidV s)
 obtain ⟨z0,z1⟩:=saidV_lt s
 have HS:Hid (∀ w,Calls Tryz.prog 114 #[.string s] w fun e w'=>e=.returned (.int .i64 (saidV s))∧Below w.heap.size w w'):=fun w=>saidSize_any s w (by unfold maxLen;omega)
 have HP:Hid (∀ w,Calls Tryz.prog 107 #[.int .i64 (saidV s)] w fun e w'=>e=.returned (.int .i64 (padV (saidV s)))∧w'=w):=fun w=>padded_any _ w z0 (by omega)
 have hes:(s.extract 4 (saidV s).toNat).size≤100000:=by rw [ByteArray.size_extract];omega
 have HL:Hid (∀ w,Cd w→Calls Tryz.prog 115 #[.string (s.extract 4 (saidV s).toNat)] w fun e w'=>∃ a cap,e=.returned (.slice a (testsOf s).length cap)∧(testsOf s).length≤cap∧Hid (TsF w.heap.size w' a (testsOf s))∧Below w.heap.size w w'):=fun w hd=>(readL_any _ w (by omega) hd).mono fun _ _ ⟨a,c,h1,h2,h3,h4⟩=>⟨a,c,h1,h2,(show TsF _ _ _ _ from h3),h4⟩
 have hhalf:=readN_half (s.extract 4 (saidV s).toNat).size ⟨s.extract 4 (saidV s).toNat,0⟩ (fun h=>absurd rfl h)
 have hll:(testsOf s).length≤100000:=by
  show (readN _ _).length≤100000
  simp only at hhalf
  omega
 have HE:Hid (∀ a cap w,Ts w a (testsOf s)→(testsOf s).length≤cap→Cd w→Calls Tryz.prog 72 #[.slice a (testsOf s).length cap] w fun e w'=>e=.returned (.tuple #[.string ⟨#[]⟩,.int .i64 (rightE (testsOf s))])∧Below w.heap.size w w'):=fun a cap w hT hc hd=>by
  have:=encode_any a (testsOf s) cap w hT hll hc hd (readN_w _ _)
  unfold encodeS at this;rwa [if_neg h4] at this
 clear hhalf hes hll
 have hsl:∀ w,(Instr.slice 9 (.string s) (some (.int .i64 4)) (some (.int .i64 (saidV s))) none).run Tryz.prog w=.ok (.string (s.extract 4 (saidV s).toNat)) w:=fun w=>slice_lh s 4 _ (by omega) h3 (by omega) w
 have hsl2:∀ w,(Instr.slice 9 (.string s) none (some (.int .i64 (padV (saidV s)))) none).run Tryz.prog w=.ok (.string (s.extract 0 (padV (saidV s)).toNat)) w:=fun w=>slice_h s _ (by omega) h2 w
 generalize s.extract 4 (saidV s).toNat=X at *
 generalize s.extract 0 (padV (saidV s)).toNat=Y at *
 generalize testsOf s=L at *
 generalize encS L=E at *
 generalize rightE L=R at *
 generalize saidV s=z at *
 generalize padV z=p at *
 have hR:(R != 0)=true:=by simpa using h4
 clear h4
 go_enter Tryz.func85,Tryz.ntmps85
 go_wp2_with fail
 refine (HS.out _).mono ?_
 rintro x w1 ⟨rfl,g1⟩
 go_wp2_with fail
 refine (HP.out _).mono ?_
 rintro x w2 ⟨rfl,rfl⟩
 go_wp2_with fail
 refine (HL.out _ (hd.below g1)).mono ?_
 rintro x w3 ⟨a,cap,rfl,hcap,HTF,g3⟩
 have hT:=HTF.out.ts
 have b3:=btr g1 g3 (Nat.le_refl _)
 go_wp2_with fail
 refine (HE.out a cap _ hT hcap (hd.below b3)).mono ?_
 rintro x w4 ⟨rfl,g4⟩
 have b4:=btr b3 g4 (Nat.le_refl _)
 go_wp2_with fail
 go_ret3
 exact ⟨rfl,b4⟩
theorem dec_other (s:ByteArray) (w:World) (hs:s.size≤100000) (hd:Cd w) (h:4≤s.size) (h2:padV (saidV s)≤s.size) (h3:4≤saidV s) (h4:rightE (testsOf s)=0) (h5:encS (testsOf s)≠s.extract 0 (padV (saidV s)).toNat):Calls Tryz.prog 85 #[.string s] w (Nope w 11):=by
 have h' : ¬ ((s.size:Int) < 4):=by omega
 have h2' : ¬ ((s.size:Int) < padV (saidV s)):=by omega
 have h3' : ¬ (saidV s < 4):=by omega
 have hpz:=padV_ge (saidV s)
 obtain ⟨z0,z1⟩:=saidV_lt s
 have HS:Hid (∀ w,Calls Tryz.prog 114 #[.string s] w fun e w'=>e=.returned (.int .i64 (saidV s))∧Below w.heap.size w w'):=fun w=>saidSize_any s w (by unfold maxLen;omega)
 have HP:Hid (∀ w,Calls Tryz.prog 107 #[.int .i64 (saidV s)] w fun e w'=>e=.returned (.int .i64 (padV (saidV s)))∧w'=w):=fun w=>padded_any _ w z0 (by omega)
 have hes:(s.extract 4 (saidV s).toNat).size≤100000:=by rw [ByteArray.size_extract];omega
 have HL:Hid (∀ w,Cd w→Calls Tryz.prog 115 #[.string (s.extract 4 (saidV s).toNat)] w fun e w'=>∃ a cap,e=.returned (.slice a (testsOf s).length cap)∧(testsOf s).length≤cap∧Hid (TsF w.heap.size w' a (testsOf s))∧Below w.heap.size w w'):=fun w hd=>(readL_any _ w (by omega) hd).mono fun _ _ ⟨a,c,h1,h2,h3,h4⟩=>⟨a,c,h1,h2,(show TsF _ _ _ _ from h3),h4⟩
 have hhalf:=readN_half (s.extract 4 (saidV s).toNat).size ⟨s.extract 4 (saidV s).toNat,0⟩ (fun h=>absurd rfl h)
 have hll:(testsOf s).length≤100000:=by
  show (readN _ _).length≤100000
  simp only at hhalf
  omega
 have HE:Hid (∀ a cap w,Ts w a (testsOf s)→(testsOf s).length≤cap→Cd w→Calls Tryz.prog 72 #[.slice a (testsOf s).length cap] w fun e w'=>e=.returned (.tuple #[.string (encS (testsOf s)),.int .i64 0])∧Below w.heap.size w w'):=fun a cap w hT hc hd=>by
  have:=encode_any a (testsOf s) cap w hT hll hc hd (readN_w _ _)
  unfold encodeS at this;rwa [if_pos h4,h4] at this
 clear hhalf hes hll
 have hsl:∀ w,(Instr.slice 9 (.string s) (some (.int .i64 4)) (some (.int .i64 (saidV s))) none).run Tryz.prog w=.ok (.string (s.extract 4 (saidV s).toNat)) w:=fun w=>slice_lh s 4 _ (by omega) h3 (by omega) w
 have hsl2:∀ w,(Instr.slice 9 (.string s) none (some (.int .i64 (padV (saidV s)))) none).run Tryz.prog w=.ok (.string (s.extract 0 (padV (saidV s)).toNat)) w:=fun w=>slice_h s _ (by omega) h2 w
 generalize s.extract 4 (saidV s).toNat=X at *
 generalize s.extract 0 (padV (saidV s)).toNat=Y at *
 generalize testsOf s=L at *
 generalize encS L=E at *
 clear h4
 generalize saidV s=z at *
 generalize padV z=p at *
 have hq:(!E.toList == Y.toList)=true:=by
  rw [Bool.not_eq_true',beq_eq_false_iff_ne]
  intro hh
  apply h5
  apply ba_ext
  rw [← ByteArray.toList_eq,← ByteArray.toList_eq]
  exact hh
 clear h5
 go_enter Tryz.func85,Tryz.ntmps85
 go_wp2_with fail
 refine (HS.out _).mono ?_
 rintro x w1 ⟨rfl,g1⟩
 go_wp2_with fail
 refine (HP.out _).mono ?_
 rintro x w2 ⟨rfl,rfl⟩
 go_wp2_with fail
 refine (HL.out _ (hd.below g1)).mono ?_
 rintro x w3 ⟨a,cap,rfl,hcap,HTF,g3⟩
 have hT:=HTF.out.ts
 have b3:=btr g1 g3 (Nat.le_refl _)
 go_wp2_with fail
 refine (HE.out a cap _ hT hcap (hd.below b3)).mono ?_
 rintro x w4 ⟨rfl,g4⟩
 have b4:=btr b3 g4 (Nat.le_refl _)
 go_wp2_with fail
 go_ret3
 exact ⟨rfl,b4⟩
theorem dec_ok (s:ByteArray) (w:World) (hs:s.size≤100000) (hd:Cd w) (h:4≤s.size) (h2:padV (saidV s)≤s.size) (h3:4≤saidV s) (h4:rightE (testsOf s)=0) (h5:encS (testsOf s)=s.extract 0 (padV (saidV s)).toNat):Calls Tryz.prog 85 #[.string s] w fun e w'=>∃ a cap,e=.returned (.tuple #[.slice a (testsOf s).length cap,.int .i64 (padV (saidV s)),.int .i64 0])∧(testsOf s).length≤cap∧TsF w.heap.size w' a (testsOf s)∧Below w.heap.size w w':=by
 have h' : ¬ ((s.size:Int) < 4):=by omega
 have h2' : ¬ ((s.size:Int) < padV (saidV s)):=by omega
 have h3' : ¬ (saidV s < 4):=by omega
 have hpz:=padV_ge (saidV s)
 obtain ⟨z0,z1⟩:=saidV_lt s
 have HS:Hid (∀ w,Calls Tryz.prog 114 #[.string s] w fun e w'=>e=.returned (.int .i64 (saidV s))∧Below w.heap.size w w'):=fun w=>saidSize_any s w (by unfold maxLen;omega)
 have HP:Hid (∀ w,Calls Tryz.prog 107 #[.int .i64 (saidV s)] w fun e w'=>e=.returned (.int .i64 (padV (saidV s)))∧w'=w):=fun w=>padded_any _ w z0 (by omega)
 have hes:(s.extract 4 (saidV s).toNat).size≤100000:=by rw [ByteArray.size_extract];omega
 have HL:Hid (∀ w,Cd w→Calls Tryz.prog 115 #[.string (s.extract 4 (saidV s).toNat)] w fun e w'=>∃ a cap,e=.returned (.slice a (testsOf s).length cap)∧(testsOf s).length≤cap∧Hid (TsF w.heap.size w' a (testsOf s))∧Below w.heap.size w w'):=fun w hd=>(readL_any _ w (by omega) hd).mono fun _ _ ⟨a,c,h1,h2,h3,h4⟩=>⟨a,c,h1,h2,(show TsF _ _ _ _ from h3),h4⟩
 have hhalf:=readN_half (s.extract 4 (saidV s).toNat).size ⟨s.extract 4 (saidV s).toNat,0⟩ (fun h=>absurd rfl h)
 have hll:(testsOf s).length≤100000:=by
  show (readN _ _).length≤100000
  simp only at hhalf
  omega
 have HE:Hid (∀ a cap w,Ts w a (testsOf s)→(testsOf s).length≤cap→Cd w→Calls Tryz.prog 72 #[.slice a (testsOf s).length cap] w fun e w'=>e=.returned (.tuple #[.string (encS (testsOf s)),.int .i64 0])∧Below w.heap.size w w'):=fun a cap w hT hc hd=>by
  have:=encode_any a (testsOf s) cap w hT hll hc hd (readN_w _ _)
  unfold encodeS at this;rwa [if_pos h4,h4] at this
 clear hhalf hes hll
 have hsl:∀ w,(Instr.slice 9 (.string s) (some (.int .i64 4)) (some (.int .i64 (saidV s))) none).run Tryz.prog w=.ok (.string (s.extract 4 (saidV s).toNat)) w:=fun w=>slice_lh s 4 _ (by omega) h3 (by omega) w
 have hsl2:∀ w,(Instr.slice 9 (.string s) none (some (.int .i64 (padV (saidV s)))) none).run Tryz.prog w=.ok (.string (s.extract 0 (padV (saidV s)).toNat)) w:=fun w=>slice_h s _ (by omega) h2 w
 generalize s.extract 4 (saidV s).toNat=X at *
 generalize s.extract 0 (padV (saidV s)).toNat=Y at *
 generalize testsOf s=L at *
 generalize encS L=E at *
 clear h4
 generalize saidV s=z at *
 generalize padV z=p at *
 have hq:(!E.toList == Y.toList)=false:=by rw [h5];simp
 clear h5
 go_enter Tryz.func85,Tryz.ntmps85
 go_wp2_with fail
 refine (HS.out _).mono ?_
 rintro x w1 ⟨rfl,g1⟩
 go_wp2_with fail
 refine (HP.out _).mono ?_
 rintro x w2 ⟨rfl,rfl⟩
 go_wp2_with fail
 refine (HL.out _ (hd.below g1)).mono ?_
 rintro x w3 ⟨a,cap,rfl,hcap,HTF,g3⟩
 have hT:=HTF.out.ts
 have b3:=btr g1 g3 (Nat.le_refl _)
 go_wp2_with fail
 refine (HE.out a cap _ hT hcap (hd.below b3)).mono ?_
 rintro x w4 ⟨rfl,g4⟩
 have b4:=btr b3 g4 (Nat.le_refl _)
 go_wp2_with fail
 go_ret3
 exact ⟨a,cap,rfl,hcap,(HTF.out.mono g1.size).below g4,b4⟩
def decE (s:ByteArray):Int:=if s.size < 4 then 10 else if (s.size:Int) < padV (saidV s) then 10 else 11
theorem dec_nope (s:ByteArray) (w:World) (hs:s.size≤100000) (hd:Cd w) (h : ¬ wholeOk s):Calls Tryz.prog 85 #[.string s] w (Nope w (decE s)):=by
 unfold decE
 by_cases h1:s.size < 4
 ·rw [if_pos h1];exact dec_short s w h1
 ·rw [if_neg h1]
  by_cases h2:(s.size:Int) < padV (saidV s)
  ·rw [if_pos h2];exact dec_end s w (by omega) (by omega) h2
  ·rw [if_neg h2]
   by_cases h3:saidV s < 4
   ·exact dec_low s w (by omega) (by omega) (by omega) h3
   ·by_cases h4:rightE (testsOf s)=0
    ·by_cases h5:encS (testsOf s)=s.extract 0 (padV (saidV s)).toNat
     ·exact absurd ⟨by omega,by omega,by omega,h4,h5⟩ h
     ·exact dec_other s w hs hd (by omega) (by omega) (by omega) h4 h5
    ·exact dec_wrong s w hs hd (by omega) (by omega) (by omega) h4
theorem dec_yes (s:ByteArray) (w:World) (hs:s.size≤100000) (hd:Cd w) (h:wholeOk s):Calls Tryz.prog 85 #[.string s] w fun e w'=>∃ a cap,e=.returned (.tuple #[.slice a (testsOf s).length cap,.int .i64 (padV (saidV s)),.int .i64 0])∧(testsOf s).length≤cap∧TsF w.heap.size w' a (testsOf s)∧Below w.heap.size w w':=by
 obtain ⟨h1,h2,h3,h4,h5⟩:=h
 exact dec_ok s w hs hd h1 h2 h3 h4 h5
theorem szB_of {n:Nat} (h1:1≤n) (h8:n≤8):szB (n:Int)=true:=by
 unfold szB
 rw [Bool.and_eq_true,decide_eq_true_iff,decide_eq_true_iff]
 omega
theorem field_code {t:T} {l:List T} (h:Fit t l):fieldV (codeV t.1 l)=t.1:=by
  obtain ⟨hf,_,_,hs⟩:=h
  generalize t.1=f at *
  rcases cls9 hf with rfl | rfl | rfl | rfl | rfl | rfl | rfl | rfl | rfl
  · rfl
  · rfl
  · rfl
  · rfl
  · rfl
  · rfl
  · rfl
  · unfold standB at hs
    rw [if_neg (by omega),if_pos (by omega),Bool.or_eq_true] at hs
    unfold codeV
    cases h6:hasT l (7,6,255)
    · have h17 : hasT l (7, 17, 255) = true := by rcases hs with h | h; · rw [h6] at h; cases h
                                                  · exact h
      simp [h17,fieldV,tb,fieldGo]
    · simp [fieldV,tb,fieldGo]
  · unfold standB at hs
    rw [if_neg (by omega),if_pos (by omega),Bool.or_eq_true] at hs
    unfold codeV
    cases h6:hasT l (7,6,255)
    · have h17 : hasT l (7, 17, 255) = true := by rcases hs with h | h; · rw [h6] at h; cases h
                                                  · exact h
      simp [h17,fieldV,tb,fieldGo]
    · simp [fieldV,tb,fieldGo]
theorem trip_T {t:T} {l:List T} (h:Fit t l) (hw:TW t) (B:ByteArray):readT ⟨encT t l ++ B,0⟩=t∧restR ⟨encT t l ++ B,0⟩=⟨B,0⟩:=by
  have hfc:=field_code h
  obtain ⟨n0,n1,n2⟩:=fit_num h hw
  have hz1:=szV_pos h.fld
  have hz8:=szV_le t.1
  have hb:=szB_of hz1 hz8
  have hg:=gr_pow h.fld
  obtain ⟨k0,k1⟩:=codeV_lt t.1 l
  have hs16:=restT_size t
  have e:encT t l ++ B=pb 32768 2 ++ (pb (headT t l) 1 ++ (pb (restT t).size 1 ++ (restT t ++ B))):=by unfold encT;simp only [ap_assoc]
  have hh0:0≤headT t l∧headT t l≤255:=by unfold headT;split <;> omega
  have e1:hdR ⟨encT t l ++ B,0⟩=headT t l:=by
    unfold hdR
    rw [e,skip2_ap,num1_ap _ _ hh0.1 hh0.2]
  have e3:r3R ⟨encT t l ++ B,0⟩=⟨restT t ++ B,0⟩:=by
    unfold r3R
    rw [e,skip2_ap,skip1_ap,skip1_ap]
  cases hx:wholeB t with
  | true =>
    have hh:headT t l=2 * codeV t.1 l:=by unfold headT;rw [hx];rfl
    have ef:fR ⟨encT t l ++ B,0⟩=t.1:=by
      unfold fR
      rw [e1,hh,show 2 * codeV t.1 l / 2=codeV t.1 l by omega,hfc]
    have hm:t.2.2=grV t.1:=by simpa [wholeB] using hx
    have er:restT t=pb t.2.1 (szV t.1):=by unfold restT;rw [hx];rfl
    have hne : ¬ hdR ⟨encT t l ++ B,0⟩ % 2=1:=by rw [e1,hh];omega
    constructor
    · unfold readT
      rw [if_neg hne,ef,e3,er,num_ap t.2.1 B (szV t.1) hz8 hb hw.v0 (by omega),← hm]
    · unfold restR
      rw [if_neg hne,ef,e3,er,skip_ap _ B (szV t.1) (pb_size _ _) hb]
  | false =>
    have hh:headT t l=2 * codeV t.1 l + 1:=by unfold headT;rw [hx];rfl
    have ef:fR ⟨encT t l ++ B,0⟩=t.1:=by
      unfold fR
      rw [e1,hh,show (2 * codeV t.1 l + 1) / 2=codeV t.1 l by omega,hfc]
    have er:restT t ++ B=pb t.2.1 (szV t.1) ++ (pb t.2.2 (szV t.1) ++ B):=by unfold restT;rw [hx];exact ap_assoc _ _ _
    have hne:hdR ⟨encT t l ++ B,0⟩ % 2=1:=by rw [e1,hh];omega
    constructor
    · unfold readT
      rw [if_pos hne,ef,e3,er,num_ap t.2.1 _ (szV t.1) hz8 hb hw.v0 (by omega),skip_ap _ _ (szV t.1) (pb_size _ _) hb,num_ap t.2.2 B (szV t.1) hz8 hb hw.m0 (by omega)]
    · unfold restR
      rw [if_pos hne,ef,e3,er,skip_ap _ _ (szV t.1) (pb_size _ _) hb,skip_ap _ B (szV t.1) (pb_size _ _) hb]
theorem encT_pos (t:T) (l:List T):0 < (encT t l).size:=by unfold encT;simp only [ByteArray.size_append,pb_size];omega
theorem trip_L:∀ (r l:List T),rightGo l r=0→TWs r→readN (bodyGo l r).size ⟨bodyGo l r,0⟩=r
  | [],_,_,_=>rfl
  | t :: r, l, hr, hw => by
    obtain ⟨h1,h2⟩:=right_cons.1 hr
    obtain ⟨a,b⟩:=trip_T (fit_of h1) (hw t (by simp)) (bodyGo (l ++ [t]) r)
    have hp:0 < (⟨bodyGo l (t :: r),0⟩:RS).s.size:=by
      show 0 < (encT t l ++ bodyGo (l ++ [t]) r).size
      rw [ByteArray.size_append]
      have:=encT_pos t l
      omega
    have hst:=readN_step (r:=⟨bodyGo l (t :: r),0⟩) (fun h=>absurd rfl h) hp
    have hst':readN (bodyGo l (t :: r)).size ⟨bodyGo l (t :: r),0⟩=readT ⟨encT t l ++ bodyGo (l ++ [t]) r,0⟩ :: readN (restR ⟨encT t l ++ bodyGo (l ++ [t]) r,0⟩).s.size (restR ⟨encT t l ++ bodyGo (l ++ [t]) r,0⟩):=hst
    rw [hst',a,b]
    congr 1
    exact trip_L r (l ++ [t]) h2 (fun u hu=>hw u (by simp [hu]))
theorem extract_mid (a b c:ByteArray):(a ++ (b ++ c)).extract a.size (a.size + b.size)=b:=by
 apply ba_ext
 have e1:a.size=a.data.toList.length:=by simp
 have e2:b.size=b.data.toList.length:=by simp
 simp only [ByteArray.data_extract,Array.toList_extract,ByteArray.data_append]
 rw [List.extract_eq_take_drop,e1,e2,Array.toList_append,Array.toList_append,List.drop_left,Nat.add_sub_cancel_left,List.take_left]
theorem zeros_size (n:Nat):(zeros n).size=n:=by unfold zeros;simp [ByteArray.size]
theorem encS_size (l:List T):((encS l).size:Int)=padV (4 + (bodyGo [] l).size):=by
 have h:=padV_ge (4 + (bodyGo [] l).size)
 unfold encS
 rw [ByteArray.size_append,ByteArray.size_append,ByteArray.size_append,pb_size,pb_size,zeros_size]
 omega
theorem trip (l:List T) (hr:rightE l=0) (hw:TWs l) (x:ByteArray):wholeOk (encS l ++ x)∧testsOf (encS l ++ x)=l∧padV (saidV (encS l ++ x))=(encS l).size:=by
 have hb:=body_right l hr
 have hsz:=encS_size l
 have e:encS l ++ x=pb 1 2 ++ (pb (4 + (bodyGo [] l).size) 2 ++ (bodyGo [] l ++ (zeros (padV (4 + (bodyGo [] l).size) - (4 + (bodyGo [] l).size)).toNat ++ x))):=by
  unfold encS;simp only [ap_assoc]
 have hsaid:saidV (encS l ++ x)=4 + (bodyGo [] l).size:=by
  unfold saidV
  rw [e,skip2_ap,num2_ap _ _ (by omega) (by omega)]
 have hx:(encS l ++ x).extract 4 (saidV (encS l ++ x)).toNat=bodyGo [] l:=by
  rw [hsaid]
  have h4:(pb 1 2 ++ pb (4 + (bodyGo [] l).size) 2).size=4:=by rw [ByteArray.size_append,pb_size,pb_size]
  have:=extract_mid (pb 1 2 ++ pb (4 + (bodyGo [] l).size) 2) (bodyGo [] l) (zeros (padV (4 + (bodyGo [] l).size) - (4 + (bodyGo [] l).size)).toNat ++ x)
  rw [h4] at this
  rw [e,← ap_assoc,show (4 + ((bodyGo [] l).size:Int)).toNat=4 + (bodyGo [] l).size by omega]
  exact this
 have ht:testsOf (encS l ++ x)=l:=by
  unfold testsOf
  rw [hx]
  exact trip_L l [] hr hw
 have hp:padV (saidV (encS l ++ x))=(encS l).size:=by rw [hsaid,hsz]
 refine ⟨⟨?_,?_,?_,?_,?_⟩,ht,hp⟩
 ·have:=padV_ge (4 + (bodyGo [] l).size)
  rw [ByteArray.size_append];omega
 ·rw [hp,ByteArray.size_append];omega
 ·rw [hsaid];omega
 ·rw [ht];exact hr
 ·rw [ht,hp,Int.toNat_natCast,extract_left]
end Go.Proofs.YtlcbfdiohcbpbaaGreatDoor.Mt

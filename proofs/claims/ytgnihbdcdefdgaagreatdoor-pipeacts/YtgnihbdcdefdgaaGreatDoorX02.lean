import Derived.Test.YtgnihbdcdefdgaaGreatDoorX01
import Derived.Test.YtgnihbdcdefdgaaGreatDoorRows
import Derived.WalkKit
import Derived.ProofKit
import Derived.OpenShut
import Derived.Handy
import Derived.BigQuiet
import Derived.Deep.RegionWith
import Derived.Laws.ResultCell
import Derived.Laws.BytesArg
import Derived.Laws.StructEq
set_option maxHeartbeats 2000000
open Go.ChangeShapes Go.WideShapes Go.ChangeAt Go.RowKit
open Go.Proofs.Tryz
namespace Go.Proofs.YtgnihbdcdefdgaaGreatDoor
namespace Mt
abbrev T:Type:=Int × Int × Int
structure TW (t:T):Prop where
 v0:0≤t.2.1
 v1:t.2.1<18446744073709551616
 m0:0≤t.2.2
 m1:t.2.2<18446744073709551616
abbrev TWs (l:List T):Prop:=∀ t∈l,TW t
theorem and_gr_iff (f a:Int) (hf : ¬ (f<1∨9<f)) (h0:0≤a) (h1:a<18446744073709551616):bits .and .u64 a (grV f)=a↔a≤grV f:=by
 have:=(grV_lt f).1;rw[and_gr f a hf h0 h1];constructor
 ·intro h;have:=Int.emod_lt_of_pos a (show 0<grV f+1 by omega);omega
 ·intro h;exact Int.emod_eq_of_lt h0 (by omega)
def fitB (t:T):Bool:=!(t.2.2==0)&&decide (t.2.2≤grV t.1)&&(bits .andNot .u64 t.2.1 t.2.2==0)
def hasT (l:List T) (t:T):Bool:=l.any fun u=>decide (u=t)
theorem hasT_iff (l:List T) (t:T):hasT l t=true↔t∈l:=by simp[hasT]
def standB (f:Int) (l:List T):Bool:=if 5≤f∧f≤7 then hasT l (4,2048,65535) else if f=8∨f=9 then hasT l (7,6,255)||hasT l (7,17,255) else true
def lastF:List T→Int
 | []=>0
 | [t]=>t.1
 | _::u::r=>lastF (u::r)
theorem lastF_snoc:∀ (l:List T) (t:T),lastF (l++[t])=t.1
 | [],_=>rfl
 | [_],_=>rfl
 | _::u::r,t=>by
   show lastF (u::(r++[t]))=t.1;exact lastF_snoc (u::r) t
theorem lastF_get (l:List T) (k:Nat) (h:k+1=l.length):lastF l=(l[k]'(by omega)).1:=by
 have hne:l≠[]:=by intro h0;subst h0;simp at h
 have e:=List.dropLast_concat_getLast hne;have e2:=lastF_snoc l.dropLast (l.getLast hne);rw[e]at e2;rw[e2,List.getLast_eq_getElem];congr 2;omega
def behindE (t:T) (l:List T):Int:=if wdV t.1=0 then 20 else if (l≠[]∧t.1≤lastF l)∨fitB t=false∨standB t.1 l=false then 21 else 0
def rightGo:List T→List T→Int
 | _,[]=>0
 | l,t::r=>if behindE t l=0 then rightGo (l++[t]) r else behindE t l
def rightE (l:List T):Int:=rightGo [] l
def wholeV (l:List T) (f:Int):Option Int:=(l.find? fun t=>t.1==f&&t.2.2==grV f).map (·.2.1)
def rfitB (t:T):Bool:=!(t.2.2==0)&&(bits .and .u64 t.2.2 (grV t.1)==t.2.2)&&(bits .and .u64 t.2.1 t.2.2==t.2.1)
def rstandB (f:Int) (l:List T):Bool:=if 5≤f∧f≤7 then decide (wholeV l 4=some 2048) else if 8≤f then decide (wholeV l 7=some 6∨wholeV l 7=some 17) else true
def rbehindE (t:T) (l:List T):Int:=if wdV t.1=0 then 20 else if (l≠[]∧t.1≤lastF l)∨rfitB t=false∨rstandB t.1 l=false then 21 else 0
def rrightGo:List T→List T→Int
 | _,[]=>0
 | l,t::r=>if rbehindE t l=0 then rrightGo (l++[t]) r else rbehindE t l
abbrev Rises (l:List T):Prop:=l.Pairwise fun a b=>a.1<b.1
theorem rises_last:∀ (l:List T),Rises l→∀ a∈l,a.1≤lastF l
 | [],_,a,h=>by cases h
 | [t],_,a,h=>by simp at h;subst h;exact Int.le_refl _
 | t::u::r,hr,a,h=>by
   show a.1≤lastF (u::r);rw[Rises,List.pairwise_cons]at hr;rcases List.mem_cons.1 h with rfl|h
   ·have h1:=hr.1 u (by simp);have h2:=rises_last (u::r) hr.2 u (by simp);omega
   ·exact rises_last (u::r) hr.2 a h
theorem rises_snoc {l:List T} {t:T} (h:Rises l) (ht:l=[]∨lastF l<t.1):Rises (l++[t]):=by
 rw[Rises,List.pairwise_append];refine⟨h,by simp,fun a ha b hb => ?_⟩;simp at hb;subst hb;rcases ht with rfl|ht
 ·cases ha
 ·have:=rises_last l h a ha;omega
theorem whole_has:∀ (l:List T),Rises l→∀ f v,(t:T)→t=(f,v,grV f)→(hasT l t=true↔wholeV l f=some v)
 | [],_,f,v,t,_=>by simp[hasT,wholeV]
 | a::l,hr,f,v,t,ht=>by
   rw[Rises,List.pairwise_cons]at hr;have ih:=whole_has l hr.2 f v t ht;by_cases ha:a.1=f∧a.2.2=grV f
   ·have e:wholeV (a::l) f=some a.2.1:=by simp[wholeV,ha.1,ha.2]
    rw[e,hasT_iff,List.mem_cons];constructor
    ·rintro(h|h)
     ·rw[ht]at h;rw[← h]
     ·have:=hr.1 t h;rw[ht]at this;have:=ha.1;simp at *
      omega
    ·intro h;left;rw[ht];obtain⟨a1,a2,a3⟩:=a;simp at h ha ⊢;exact⟨ha.1.symm,h.symm,ha.2.symm⟩
   ·have e:wholeV (a::l) f=wholeV l f:=by
     have:(a.1==f&&a.2.2==grV f)=false:=by
      rw[Bool.and_eq_false_iff,beq_eq_false_iff_ne,beq_eq_false_iff_ne];by_cases h1:a.1=f
      ·exact .inr fun h2=>ha ⟨h1,h2⟩
      ·exact .inl h1
     simp[wholeV,this]
    rw[e,← ih,hasT_iff,hasT_iff,List.mem_cons];constructor
    ·rintro(h|h)
     ·exfalso;apply ha;rw[← h,ht];exact⟨rfl,rfl⟩
     ·exact h
    ·exact .inr
theorem bool_iff {a b:Bool} (h:a=true↔b=true):a=b:=by cases a<;>cases b<;>simp_all
theorem rstand_eq (l:List T) (hr:Rises l) (f:Int) (hf : ¬ (f<1∨9<f)):rstandB f l=standB f l:=by
 unfold rstandB standB;split
 ·apply bool_iff;rw[whole_has l hr 4 2048 (4,2048,65535) rfl];simp
 ·by_cases h8:f=8∨f=9
  ·rw[if_pos h8,if_pos (by omega)];apply bool_iff;rw[Bool.or_eq_true,whole_has l hr 7 6 (7,6,255) rfl,whole_has l hr 7 17 (7,17,255) rfl];simp
  ·rw[if_neg h8,if_neg (by omega)]
theorem rfit_eq (t:T) (hw:TW t) (hf : ¬ (t.1<1∨9<t.1)):rfitB t=fitB t:=by
 obtain⟨a,b,c,d⟩:=hw;unfold rfitB fitB;have h1:(bits .and .u64 t.2.2 (grV t.1)==t.2.2)=decide (t.2.2≤grV t.1):=by
  apply bool_iff;rw[beq_iff_eq,decide_eq_true_iff,and_gr_iff t.1 t.2.2 hf c d]
 have h2:(bits .and .u64 t.2.1 t.2.2==t.2.1)=(bits .andNot .u64 t.2.1 t.2.2==0):=by
  apply bool_iff;rw[beq_iff_eq,beq_iff_eq,not_iff _ _ a b]
 rw[h1,h2]
theorem rbehind_eq (t:T) (l:List T) (hw:TW t) (hr:Rises l):rbehindE t l=behindE t l:=by
 unfold rbehindE behindE;by_cases h:wdV t.1=0
 ·rw[if_pos h,if_pos h]
 ·rw[if_neg h,if_neg h];have hf : ¬ (t.1<1∨9<t.1):=fun g=>h (wdV_none g);rw[rfit_eq t hw hf,rstand_eq l hr t.1 hf]
theorem behind_rises {t:T} {l:List T} (h:behindE t l=0) (hr:Rises l):Rises (l++[t]):=by
 apply rises_snoc hr;unfold behindE at h;by_cases h0:l=[]
 ·exact .inl h0
 ·right;split at h
  ·cases h
  ·split at h
   ·cases h
   ·rename_i g;by_cases hl:lastF l<t.1
    ·exact hl
    ·exact absurd (Or.inl ⟨h0,by omega⟩) g
theorem rright_eq:∀ (r l:List T),TWs r→Rises l→rrightGo l r=rightGo l r
 | [],_,_,_=>rfl
 | t::r,l,hw,hr=>by
   unfold rrightGo rightGo;rw[rbehind_eq t l (hw t (by simp)) hr];by_cases h:behindE t l=0
   ·rw[if_pos h,if_pos h];exact rright_eq r (l++[t]) (fun u hu=>hw u (by simp[hu])) (behind_rises h hr)
   ·rw[if_neg h,if_neg h]
theorem right_cons {t:T} {l r:List T}:rightGo l (t::r)=0↔behindE t l=0∧rightGo (l++[t]) r=0:=by
 rw[rightGo];constructor
 ·intro h;split at h
  ·rename_i g;exact⟨g,h⟩
  ·rename_i g;exact absurd h g
 ·rintro⟨h,g⟩;rw[if_pos h];exact g
structure Fit (t:T) (l:List T):Prop where
 fld : ¬ (t.1<1∨9<t.1)
 up:l=[]∨lastF l<t.1
 fit:fitB t=true
 std:standB t.1 l=true
theorem fit_of {t:T} {l:List T} (h:behindE t l=0):Fit t l:=by
 unfold behindE at h;split at h
 ·cases h
 ·rename_i g;split at h
  ·cases h
  ·rename_i g2;rw[not_or,not_or]at g2;refine⟨fun x=>g (wdV_none x),?_,by simpa using g2.2.1,by simpa using g2.2.2⟩;by_cases h0:l=[]
   ·exact .inl h0
   ·right;have:=g2.1;by_cases hl:lastF l<t.1
    ·exact hl
    ·exact absurd ⟨h0,by omega⟩ this
theorem short:∀ (l:List T) (c:Int),Rises l→(∀ a∈l,c<a.1∧a.1≤9)→l.length≤(9-c).toNat
 | [],_,_,_=>by simp
 | a::l,c,hr,h=>by
   rw[Rises,List.pairwise_cons]at hr;have h1:=h a (by simp);have:=short l a.1 hr.2 (fun b hb=>⟨hr.1 b hb,(h b (by simp[hb])).2⟩);rw[List.length_cons];omega
theorem right_rises:∀ (r l:List T),rightGo l r=0→Rises l→(∀ a∈l,0<a.1∧a.1≤9)→Rises (l++r)∧∀ a∈l++r,0<a.1∧a.1≤9
 | [],l,_,hr,h=>by rw[List.append_nil];exact⟨hr,h⟩
 | t::r,l,hg,hr,h=>by
   obtain⟨h1,h2⟩:=right_cons.1 hg;have:=right_rises r (l++[t]) h2 (behind_rises h1 hr) (by
    intro a ha;rcases List.mem_append.1 ha with ha|ha
    ·exact h a ha
    ·simp at ha;subst ha;have:=(fit_of h1).fld;omega)
   simpa using this
theorem right_short (l:List T) (h:rightE l=0):l.length≤9:=by
 have:=right_rises l [] h (by simp[Rises]) (by simp);have:=short l 0 (by simpa using this.1) (by simpa using this.2);simpa using this
abbrev tV (t:T):Value:=.agg #[.int .i64 t.1,.int .u64 t.2.1,.int .u64 t.2.2]
abbrev tC (t:T):Array Value:=#[.int .i64 t.1,.int .u64 t.2.1,.int .u64 t.2.2]
abbrev tx (w:World) (t:T):World:=w.alloc (.cells (tC t) 168)
abbrev C3 (w:World) (b o:Nat) (t:T):Prop:=w.cell? ⟨b,o,none⟩=some (.int .i64 t.1)∧w.cell? ⟨b,o+1,none⟩=some (.int .u64 t.2.1)∧w.cell? ⟨b,o+2,none⟩=some (.int .u64 t.2.2)
theorem C3.new (w:World) (t:T):C3 (tx w t) w.heap.size 0 t:=by unfold C3 tx;simp
theorem C3.block {w w':World} {b o:Nat} {t:T} (h:C3 w b o t) (g:w'.heap[b]? = w.heap[b]?):C3 w' b o t:=by
 obtain⟨h0,h1,h2⟩:=h;have e:∀ o,w'.cell? ⟨b,o,none⟩=w.cell? ⟨b,o,none⟩:=fun o=>World.cell?_of_block (w:=w) g;exact⟨(e _).trans h0,(e _).trans h1,(e _).trans h2⟩
theorem C3.below {w w':World} {b o B:Nat} {t:T} (h:C3 w b o t) (hb:b<B) (g:Below B w w'):C3 w' b o t:=h.block (g.block b hb)
def eqB (t u:T):Bool:=decide (t=u)
theorem eqB_true {t u:T}:eqB t u=true↔t=u:=by unfold eqB;simp
theorem eqB_false {t u:T}:eqB t u=false↔t≠u:=by unfold eqB;simp
theorem eqT (t u:T) (w:World):(binOp .eql 168 (tV t) (tV u)).run prog w=.ok (.bool (eqB t u)) w:=by
 have u3:=underlying3;have a3:=Tryz.isAgg3;have z3:=Tryz.sizeOf3;have u4:=underlying44;have a4:=Tryz.isAgg44;have z4:=Tryz.sizeOf44;have hS:prog.underlying 168=some (.struct (prog.fieldsOf 168)):=by kernel_rfl
 have hp:prog.stoodInHeld 168=false:=by kernel_rfl
 rw[run_eql_struct,show(10000:Nat)=9999+1 from rfl,run_equalIn_agg w 9999 168 _ _ hS hp];simp only[Program.fieldsOf,underlying168];go_simp;unfold eqB;obtain⟨a,b,c⟩:=t;obtain⟨x,y,z⟩:=u;by_cases h1:a=x<;>by_cases h2:b=y<;>by_cases h3:c=z<;>simp[h1,h2,h3]
theorem guT (op:BinOp) (x y:Operand) (t u:T) (w:World):(eqGuard op 168 x y (tV t) (tV u)).run prog w=.ok () w:=run_eqGuard_agg w op 168 x y _ _ (by kernel_rfl)
theorem neT (t u:T) (w:World):(binOp .neq 168 (tV t) (tV u)).run prog w=.ok (.bool (!eqB t u)) w:=by
 have h:=eqT t u w;rw[run_eql_struct]at h;rw[run_neq_struct];generalize (Op.equalIn 10000 168 (tV t) (tV u)).run prog w=r at h ⊢;cases r with
 | ok b w'=>simp[Result.andThen]at h ⊢;exact⟨by rw[h.1],h.2⟩
 | halt x w'=>simp[Result.andThen]at h
def Ts (w:World) (a:Option Addr) (l:List T):Prop :=
 l=[]∨∃ g o,a=some ⟨g,o,none⟩∧g<w.heap.size∧∀ i (h:i<l.length),C3 w g (o+i*3) l[i]
theorem Ts.below {w w':World} {a:Option Addr} {l:List T} (h:Ts w a l) (g:Below w.heap.size w w'):Ts w' a l:=by
 rcases h with h|⟨b,o,ha,hb,hc⟩
 ·exact .inl h
 ·exact .inr ⟨b,o,ha,Nat.lt_of_lt_of_le hb g.size,fun i hi=>(hc i hi).below hb g⟩
theorem Ts.take {w:World} {a:Option Addr} {l:List T} (h:Ts w a l) (k:Nat):Ts w a (l.take k):=by
 rcases h with rfl|⟨b,o,ha,hb,hc⟩
 ·exact .inl (by simp)
 ·exact .inr ⟨b,o,ha,hb,fun i hi=>by
   have hi':i<l.length:=by rw[List.length_take]at hi;omega
   rw[List.getElem_take];exact hc i hi'⟩
theorem Ts.at {w:World} {a:Option Addr} {l:List T} (h:Ts w a l) {k:Nat} (hk:k<l.length):∃ g o,a=some ⟨g,o,none⟩∧g<w.heap.size∧∀ i (h:i<l.length),C3 w g (o+i*3) l[i]:=by
 rcases h with rfl|h
 ·cases hk
 ·exact h
theorem Ts.alloc {w:World} {a:Option Addr} {l:List T} (h:Ts w a l) (o:Obj):Ts (w.alloc o) a l:=h.below (by go_grown)
theorem take_snoc_get (l:List T) (k:Nat) (h:k<l.length):l.take (k+1)=l.take k++[l[k]]:=List.take_succ_eq_append_getElem h
theorem C3.gr {W:World} {b o:Nat} {t:T} (h:C3 W b o t) (hb:b<W.heap.size) (n:GrT W):C3 n.w b o t:=h.below hb n.h
theorem Ts.gr {W:World} {a:Option Addr} {l:List T} (h:Ts W a l) (n:GrT W):Ts n.w a l:=h.below n.h
theorem loadT (w:World) (b:Nat) (t:T) (h:C3 w b 0 t):(loadVar 168 ⟨b,0,none⟩).run prog w=.ok (tV t) w:=by
 obtain⟨h0,h1,h2⟩:=h;simp[go_sem, *]
theorem resT {fn:Func} {k:Tmp} (h:fn.results=#[.cell k 168]) {tmps:Array Value} {w:World} {b:Nat} {t:T} (ht:tmps.getD k undef=.pointer (some ⟨b,0,none⟩)) (hs:C3 w b 0 t) :
 (results fn tmps).run prog w=.ok (tV t) w:=by
 have ht':tmps[k]?.getD undef=.pointer (some ⟨b,0,none⟩):=by simpa using ht
 simp[results,h,ht',asAddr,loadT w b t hs]
theorem has_snoc (l:List T) (k:Nat) (h:k<l.length) (t:T):hasT (l.take (k+1)) t=(hasT (l.take k) t||decide (l[k]=t)):=by
 unfold hasT;rw[take_snoc_get l k h,List.any_append,List.any_cons,List.any_nil,Bool.or_false]
theorem index_any (a:Option Addr) (l:List T) (cap:Nat) (t:T) (w:World) (h:Ts w a l) (hl:l.length≤9223372036854775807) :
 Calls prog 244 #[.slice a l.length cap,tV t] w fun e w'=>∃ n:Int,e=.returned (.int .i64 n)∧decide (0≤n)=hasT l t∧Below w.heap.size w w':=by
 have hE:=eqT;have hG:=guT;go_enter func244,ntmps244;go_wp2;go_loopw [8] (fun i wr=>∃ k:Nat,k≤l.length∧i=.int .i64 k∧hasT (l.take k) t=false∧C3 wr w.heap.size 0 t∧Below w.heap.size w wr) (fun i _=>l.length-(intOf i).toNat);case atStart=>exact⟨0,by omega,rfl,by simp[hasT],C3.new w t,by go_grown⟩
 case round =>
  obtain⟨k,hk,rfl,hn,⟨b0,b1,b2⟩,hbel⟩:=hrel;by_cases hlt:k<l.length
  ·obtain⟨g,o,rfl,hg,hc⟩:=h.at hlt;obtain⟨c0,c1,c2⟩:=(hc k hlt).below hg hbel;have hs:=has_snoc l k hlt t;go_wp2;go_quiet (fail);by_cases he:t=l[k]
   ·have HE:Hid (hasT (l.take (k+1)) t=true):=show hasT (l.take (k+1)) t=true by rw[hs];simp[he]
    have hd:eqB t l[k]=true:=eqB_true.2 he;clear hs he;rw[hd];go_wp2;go_ret;refine⟨k,rfl,?_,bdr hbel _⟩;have h1:=(hasT_iff _ _).1 HE.out;rw[decide_eq_true (by omega)];exact((hasT_iff l t).2 (List.mem_of_mem_take h1)).symm
   ·have HE:Hid (hasT (l.take (k+1)) t=false):=show hasT (l.take (k+1)) t=false by rw[hs,hn];simp[Ne.symm he]
    have hd:eqB t l[k]=false:=eqB_false.2 he;clear hs he;rw[hd];go_wp2;go_roundw;case rel=>exact⟨k+1,by omega,by go_num,HE.out,⟨by simpa using b0,by simpa using b1,by simpa using b2⟩,bdr hbel _⟩
    case measure=>simp[intOf];omega
  ·have hk':k=l.length:=by omega
   subst hk';go_wp2;go_ret;refine⟨-1,rfl,?_,hbel⟩;rw[List.take_length]at hn;rw[hn];rfl
theorem contains_any (a:Option Addr) (l:List T) (cap:Nat) (t:T) (w:World) (h:Ts w a l) (hl:l.length≤9223372036854775807) :
 Calls prog 221 #[.slice a l.length cap,tV t] w fun e w'=>e=.returned (.bool (hasT l t))∧Below w.heap.size w w':=by
 have HI:Hid (∀ w,Ts w a l→Calls prog 244 #[.slice a l.length cap,tV t] w fun e w'=>∃ n:Int,e=.returned (.int .i64 n)∧decide (0≤n)=hasT l t∧Below w.heap.size w w'):=fun w h=>index_any a l cap t w h hl;go_enter func221,ntmps221;go_wp2_with fail;refine(HI.out _ (h.alloc _)).mono ?_;rintro x w1 ⟨n,rfl,hn,g1⟩;go_wp2_with fail;go_ret;exact⟨rfl,btr (by go_grown) g1 (by simp)⟩
theorem greatest_any (f:Int) (w:World):Calls prog 220 #[.int .i64 f] w fun e w'=>e=.returned (.int .u64 (grV f))∧w'=w:=by
 by_cases h:f<1∨9<f
 ·have hw:=width_any f;rw[wdV_none h]at hw;rw[grV_none h];clear h;go_enter func220,ntmps220;go_wp2_with fail;refine(hw _).mono ?_;rintro x w1 ⟨rfl,rfl⟩;go_wp2_with fail;go_ret;exact⟨rfl,rfl⟩
 ·rcases cls9 h with rfl|rfl|rfl|rfl|rfl|rfl|rfl|rfl|rfl
  all_goals
   clear h;go_enter func220,ntmps220;go_wp2_with fail;refine(width_any _ _).mono ?_;rintro x w1 ⟨rfl,rfl⟩;simp only[show wdV 1=32 from rfl,show wdV 2=64 from rfl,show wdV 3=13 from rfl,show wdV 4=16 from rfl,show wdV 5=32 from rfl,show wdV 6=32 from rfl,show wdV 7=8 from rfl,show wdV 8=16 from rfl,show wdV 9=16 from rfl];go_wp2_with fail;go_ret;exact⟨rfl,rfl⟩
theorem whole_any (f v:Int) (w:World):Calls prog 222 #[.int .i64 f,.int .u64 v] w fun e w'=>e=.returned (tV (f,v,grV f))∧Below w.heap.size w w':=by
 have HG:Hid (∀ w,Calls prog 220 #[.int .i64 f] w fun e w'=>e=.returned (.int .u64 (grV f))∧w'=w):=fun w=>greatest_any f w;go_enter func222,ntmps222;go_wp2_with fail;refine(HG.out _).mono ?_;rintro x w1 ⟨rfl,rfl⟩;go_wp2_with fail;refine bodyPost_ret (resT (b:=w.heap.size) (t:=(f,v,grV f)) rfl rfl (by unfold C3;simp)) rfl ?_;exact⟨rfl,by go_grown⟩
theorem fits_0 (t:T) (w:World) (h0:(t.2.2 != 0)=false):Calls prog 184 #[tV t] w fun e w'=>e=.returned (.bool (false))∧Below w.heap.size w w':=by
 have HG:Hid (∀ w,Calls prog 220 #[.int .i64 t.1] w fun e w'=>e=.returned (.int .u64 (grV t.1))∧w'=w):=fun w=>greatest_any _ w;have q:=C3.gr (C3.new w t) (by simp);have q0:=fun n=>(q n).1;have q1:=fun n=>(q n).2.1;have q2:=fun n=>(q n).2.2;clear q;go_enter func184,ntmps184;go_wp2_with fail;refine wp_region_grow (by kernel_rfl) (by kernel_rfl) ?_;repeat (go_big_quiet_step (first|(go_at_call 220;exact quiet_gs (HG.out _))))
 refine wpQuiet_nil ?_;rintro w1 hw';have g1:=gr_elim hw';clear hw';go_wp2_with fail;go_ret;exact⟨rfl,btr (by go_grown) g1 (by simp)⟩
theorem fits_1 (t:T) (w:World) (h0:(t.2.2 != 0)=true) (h1:decide (t.2.2≤grV t.1)=false):Calls prog 184 #[tV t] w fun e w'=>e=.returned (.bool (false))∧Below w.heap.size w w':=by
 have HG:Hid (∀ w,Calls prog 220 #[.int .i64 t.1] w fun e w'=>e=.returned (.int .u64 (grV t.1))∧w'=w):=fun w=>greatest_any _ w;have q:=C3.gr (C3.new w t) (by simp);have q0:=fun n=>(q n).1;have q1:=fun n=>(q n).2.1;have q2:=fun n=>(q n).2.2;clear q;go_enter func184,ntmps184;go_wp2_with fail;refine wp_region_grow (by kernel_rfl) (by kernel_rfl) ?_;repeat (go_big_quiet_step (first|(go_at_call 220;exact quiet_gs (HG.out _))))
 refine wpQuiet_nil ?_;rintro w1 hw';have g1:=gr_elim hw';clear hw';go_wp2_with fail;go_ret;exact⟨rfl,btr (by go_grown) g1 (by simp)⟩
theorem fits_2 (t:T) (w:World) (h0:(t.2.2 != 0)=true) (h1:decide (t.2.2≤grV t.1)=true):Calls prog 184 #[tV t] w fun e w'=>e=.returned (.bool (bits .andNot .u64 t.2.1 t.2.2==0))∧Below w.heap.size w w':=by
 have HG:Hid (∀ w,Calls prog 220 #[.int .i64 t.1] w fun e w'=>e=.returned (.int .u64 (grV t.1))∧w'=w):=fun w=>greatest_any _ w;have q:=C3.gr (C3.new w t) (by simp);have q0:=fun n=>(q n).1;have q1:=fun n=>(q n).2.1;have q2:=fun n=>(q n).2.2;clear q;go_enter func184,ntmps184;go_wp2_with fail;refine wp_region_grow (by kernel_rfl) (by kernel_rfl) ?_;repeat (go_big_quiet_step (first|(go_at_call 220;exact quiet_gs (HG.out _))))
 refine wpQuiet_nil ?_;rintro w1 hw';have g1:=gr_elim hw';clear hw';go_wp2_with fail;go_ret;exact⟨rfl,btr (by go_grown) g1 (by simp)⟩
theorem fits_any (t:T) (w:World):Calls prog 184 #[tV t] w fun e w'=>e=.returned (.bool (fitB t))∧Below w.heap.size w w':=by
 unfold fitB;cases h0:(t.2.2 != 0)with
 | false =>
   have e:(t.2.2==0)=true:=by simpa using h0
   rw[e];exact fits_0 t w h0
 | true =>
   have e:(t.2.2==0)=false:=by simpa using h0
   rw[e];cases h1:decide (t.2.2≤grV t.1)with
   | false=>exact fits_1 t w h0 h1
   | true=>exact fits_2 t w h0 h1
structure Sn where
 inp:Int
 mt:Int
 to:Int
 fr:Int
 vl:Int
 ty:Int
 src:Int
 dst:Int
 life:Int
 pro:Int
 sp:Int
 dp:Int
 data:ByteArray
abbrev snV (s:Sn):Value:=.agg #[.int .i64 s.inp,.int .u64 s.mt,.int .u64 s.to,.int .u64 s.fr,.int .i64 s.vl,.int .i64 s.ty,.int .u32 s.src,.int .u32 s.dst,.int .i64 s.life,.int .i64 s.pro,.int .i64 s.sp,.int .i64 s.dp,.string s.data]
abbrev pkV (s:Sn):Value:=.agg #[.int .u64 s.to,.int .u64 s.fr,.int .i64 s.vl,.int .i64 s.ty,.int .u32 s.src,.int .u32 s.dst,.int .i64 s.life,.int .i64 s.pro,.int .i64 s.sp,.int .i64 s.dp,.string s.data]
abbrev snC (s:Sn):Array Value:=#[.int .i64 s.inp,.int .u64 s.mt,.int .u64 s.to,.int .u64 s.fr,.int .i64 s.vl,.int .i64 s.ty,.int .u32 s.src,.int .u32 s.dst,.int .i64 s.life,.int .i64 s.pro,.int .i64 s.sp,.int .i64 s.dp,.string s.data]
abbrev bx (w:World) (s:Sn):World:=w.alloc (.cells (snC s) 49)
abbrev rx (w:World) (s:Sn):World:=w.alloc (.cells (snC s) 56)
abbrev Bx (w:World) (b:Nat) (s:Sn):Prop :=
 w.cell? ⟨b,0,none⟩=some (.int .i64 s.inp)∧w.cell? ⟨b,1,none⟩=some (.int .u64 s.mt)∧w.cell? ⟨b,2,none⟩=some (.int .u64 s.to)∧w.cell? ⟨b,3,none⟩=some (.int .u64 s.fr)∧w.cell? ⟨b,4,none⟩=some (.int .i64 s.vl)∧w.cell? ⟨b,5,none⟩=some (.int .i64 s.ty)∧w.cell? ⟨b,6,none⟩=some (.int .u32 s.src)∧w.cell? ⟨b,7,none⟩=some (.int .u32 s.dst)∧w.cell? ⟨b,8,none⟩=some (.int .i64 s.life)∧w.cell? ⟨b,9,none⟩=some (.int .i64 s.pro)∧w.cell? ⟨b,10,none⟩=some (.int .i64 s.sp)∧w.cell? ⟨b,11,none⟩=some (.int .i64 s.dp)∧w.cell? ⟨b,12,none⟩=some (.string s.data)
theorem Bx.new (w:World) (s:Sn):Bx (bx w s) w.heap.size s:=by unfold Bx bx;simp
theorem Bx.newr (w:World) (s:Sn):Bx (rx w s) w.heap.size s:=by unfold Bx rx;simp
theorem Bx.block {w w':World} {b:Nat} {s:Sn} (h:Bx w b s) (g:w'.heap[b]? = w.heap[b]?):Bx w' b s:=by
 obtain⟨h0,h1,h2,h3,h4,h5,h6,h7,h8,h9,h10,h11,h12⟩:=h;have e:∀ o,w'.cell? ⟨b,o,none⟩=w.cell? ⟨b,o,none⟩:=fun o=>World.cell?_of_block (w:=w) g;exact⟨(e _).trans h0,(e _).trans h1,(e _).trans h2,(e _).trans h3,(e _).trans h4,(e _).trans h5,(e _).trans h6,(e _).trans h7,(e _).trans h8,(e _).trans h9,(e _).trans h10,(e _).trans h11,(e _).trans h12⟩
theorem Bx.below {w w':World} {b B:Nat} {s:Sn} (h:Bx w b s) (hb:b<B) (g:Below B w w'):Bx w' b s:=h.block (g.block b hb)
theorem load32 (w:World) (b:Nat) (s:Sn) (h:Bx w b s):(loadVar 56 ⟨b,0,none⟩).run prog w=.ok (snV s) w:=by
 obtain⟨h0,h1,h2,h3,h4,h5,h6,h7,h8,h9,h10,h11,h12⟩:=h;simp[go_sem, *]
theorem res32 {fn:Func} {t:Tmp} (h:fn.results=#[.cell t 56]) {tmps:Array Value} {w:World} {b:Nat} {s:Sn} (ht:tmps.getD t undef=.pointer (some ⟨b,0,none⟩)) (hs:Bx w b s) :
 (results fn tmps).run prog w=.ok (snV s) w:=by
 have ht':tmps[t]?.getD undef=.pointer (some ⟨b,0,none⟩):=by simpa using ht
 simp[results,h,ht',asAddr,load32 w b s hs]
def hasB (s:Sn) (f:Int):Bool:=if 1≤f∧f≤4 then true else if 5≤f∧f≤7 then s.ty==2048 else if f=8∨f=9 then s.ty==2048&&(s.pro==6||s.pro==17) else false
def stV (s:Sn) (f:Int):Int:=if f=1 then s.inp % 18446744073709551616 else if f=2 then s.mt else if f=3 then s.vl % 18446744073709551616 else if f=4 then s.ty % 18446744073709551616 else if f=5 then s.src else if f=6 then s.dst else
 if f=7 then s.pro % 18446744073709551616 else if f=8 then s.sp % 18446744073709551616 else if f=9 then s.dp % 18446744073709551616 else 0
def getV (s:Sn) (f:Int):Int:=if hasB s f=true then stV s f % (grV f+1) else 0
def getE (s:Sn) (f:Int):Int:=if hasB s f=true then 0 else 20
structure Wf (s:Sn):Prop where
 m0:0≤s.mt
 m1:s.mt<18446744073709551616
 a0:0≤s.src
 a1:s.src<4294967296
 b0:0≤s.dst
 b1:s.dst<4294967296
theorem hasB_none {f:Int} (s:Sn) (h:f<1∨9<f):hasB s f=false:=by unfold hasB;repeat (rw[if_neg (by omega)])
theorem stV_none {f:Int} (s:Sn) (h:f<1∨9<f):stV s f=0:=by unfold stV;repeat (rw[if_neg (by omega)])
theorem has_any (s:Sn) (f:Int) (w:World):Calls prog 192 #[pkV s,.int .i64 f] w fun e w'=>e=.returned (.bool (hasB s f))∧Below w.heap.size w w':=by
 by_cases h:f<1∨9<f
 ·obtain⟨b1,b2,b3,b4,b5,b6,b7,b8,b9⟩:=none_of h;rw[hasB_none s h];clear h;go_enter func192,ntmps192;go_wp2;go_ret;exact⟨rfl,by go_grown⟩
 ·rcases cls9 h with rfl|rfl|rfl|rfl|rfl|rfl|rfl|rfl|rfl
  all_goals
   clear h;go_enter func192,ntmps192;go_wp2
   all_goals
    go_ret;exact⟨ret_bool (by simp[hasB, *]),by go_grown⟩
theorem stands_any (s:Sn) (f:Int) (w:World) (hw:Wf s):Calls prog 193 #[snV s,.int .i64 f] w fun e w'=>e=.returned (.int .u64 (stV s f))∧Below w.heap.size w w':=by
 obtain⟨m0,m1,a0,a1,c0,c1⟩:=hw;by_cases h:f<1∨9<f
 ·obtain⟨b1,b2,b3,b4,b5,b6,b7,b8,b9⟩:=none_of h;rw[stV_none s h];clear h;go_enter func193,ntmps193;go_wp2;go_ret;exact⟨rfl,by go_grown⟩
 ·rcases cls9 h with rfl|rfl|rfl|rfl|rfl|rfl|rfl|rfl|rfl
  all_goals
   clear h;go_enter func193,ntmps193;go_wp2
   all_goals
    go_ret;exact⟨ret_int (by simp[stV,wrap_u, *]),by go_grown⟩
theorem fgreatest_any (f:Int) (w:World):Calls prog 194 #[.int .i64 f] w fun e w'=>e=.returned (.int .u64 (grV f))∧w'=w:=by
 by_cases h:f<1∨9<f
 ·have hw:=width_any f;rw[wdV_none h]at hw;rw[grV_none h];clear h;go_enter func194,ntmps194;go_wp2_with fail;refine(hw _).mono ?_;rintro x w1 ⟨rfl,rfl⟩;go_wp2_with fail;go_ret;exact⟨rfl,rfl⟩
 ·rcases cls9 h with rfl|rfl|rfl|rfl|rfl|rfl|rfl|rfl|rfl
  all_goals
   clear h;go_enter func194,ntmps194;go_wp2_with fail;refine(width_any _ _).mono ?_;rintro x w1 ⟨rfl,rfl⟩;simp only[show wdV 1=32 from rfl,show wdV 2=64 from rfl,show wdV 3=13 from rfl,show wdV 4=16 from rfl,show wdV 5=32 from rfl,show wdV 6=32 from rfl,show wdV 7=8 from rfl,show wdV 8=16 from rfl,show wdV 9=16 from rfl];go_wp2_with fail;go_ret;exact⟨rfl,rfl⟩
theorem stV_lt (s:Sn) (f:Int) (hw:Wf s):0≤stV s f∧stV s f<18446744073709551616:=by
 obtain⟨m0,m1,a0,a1,c0,c1⟩:=hw;unfold stV;repeat' split
 all_goals omega
theorem has_field {s:Sn} {f:Int} (h:hasB s f=true) : ¬ (f<1∨9<f):=fun x=>by rw[hasB_none s x]at h;cases h
theorem get_any (s:Sn) (f:Int) (w:World) (hw:Wf s):Calls prog 145 #[snV s,.int .i64 f] w fun e w'=>e=.returned (.tuple #[.int .u64 (getV s f),.int .i64 (getE s f)])∧Below w.heap.size w w':=by
 have HH:Hid (∀ w,Calls prog 192 #[pkV s,.int .i64 f] w fun e w'=>e=.returned (.bool (hasB s f))∧Below w.heap.size w w'):=fun w=>has_any s f w;have HS:Hid (∀ w,Calls prog 193 #[snV s,.int .i64 f] w fun e w'=>e=.returned (.int .u64 (stV s f))∧Below w.heap.size w w'):=fun w=>stands_any s f w hw;have HG:Hid (∀ w,Calls prog 194 #[.int .i64 f] w fun e w'=>e=.returned (.int .u64 (grV f))∧w'=w):=fun w=>fgreatest_any f w;obtain⟨t0,t1⟩:=stV_lt s f hw;unfold getV getE;cases hb:hasB s f with
 | false =>
   rw[hb]at HH;rw[if_neg (by simp),if_neg (by simp)];clear HS HG t0 t1 hb hw;go_enter func145,ntmps145;go_wp2_with fail;refine(HH.out _).mono ?_;rintro x w1 ⟨rfl,g1⟩;go_wp2_with fail;go_ret2
   exact⟨rfl,btr (by go_grown) g1 (by simp)⟩
 | true =>
   rw[hb]at HH;have ha:=and_gr f _ (has_field hb) t0 t1;rw[if_pos rfl,if_pos rfl,← ha];clear hb hw ha;generalize stV s f=x at *
   generalize grV f=y at *
   go_enter func145,ntmps145;go_wp2_with fail;refine(HH.out _).mono ?_;rintro x w1 ⟨rfl,g1⟩;have hc:=(Bx.new w s).below (by simp) g1;obtain⟨h0,h1,h2,h3,h4,h5,h6,h7,h8,h9,h10,h11,h12⟩:=hc;go_wp2_with fail;refine(HS.out _).mono ?_;rintro x w2 ⟨rfl,g2⟩;go_wp2_with fail;refine(HG.out _).mono ?_;rintro x w3 ⟨rfl,rfl⟩;go_wp2_with fail;go_ret2
   exact⟨rfl,btr (btr (by go_grown) g1 (by simp)) g2 (Nat.le_refl _)⟩
end Mt
namespace Fd
open Mt
theorem load27 (w:World) (b:Nat) (s:Sn) (h:Bx w b s):(loadVar 49 ⟨b,0,none⟩).run prog w=.ok (snV s) w:=by
 obtain⟨h0,h1,h2,h3,h4,h5,h6,h7,h8,h9,h10,h11,h12⟩:=h;simp[go_sem, *]
theorem res27 {fn:Func} {t:Tmp} (h:fn.results=#[.cell t 49]) {tmps:Array Value} {w:World} {b:Nat} {s:Sn} (ht:tmps.getD t undef=.pointer (some ⟨b,0,none⟩)) (hs:Bx w b s) :
 (results fn tmps).run prog w=.ok (snV s) w:=by
 have ht':tmps[t]?.getD undef=.pointer (some ⟨b,0,none⟩):=by simpa using ht
 simp[results,h,ht',asAddr,load27 w b s hs]
theorem res27e {fn:Func} {t u:Tmp} (h:fn.results=#[.cell t 49,.tmp u]) {tmps:Array Value} {w:World} {b:Nat} {s:Sn} (ht:tmps.getD t undef=.pointer (some ⟨b,0,none⟩)) (hs:Bx w b s) :
 (results fn tmps).run prog w=.ok (.tuple #[snV s,tmps.getD u undef]) w:=by
 have ht':tmps[t]?.getD undef=.pointer (some ⟨b,0,none⟩):=by simpa using ht
 simp[results,h,ht',asAddr,load27 w b s hs]
theorem has_any (s:Sn) (f:Int) (w:World):Calls prog 192 #[pkV s,.int .i64 f] w fun e w'=>e=.returned (.bool (hasB s f))∧Below w.heap.size w w':=by
 by_cases h:f<1∨9<f
 ·obtain⟨b1,b2,b3,b4,b5,b6,b7,b8,b9⟩:=none_of h;rw[hasB_none s h];clear h;go_enter func192,ntmps192;go_wp2;go_ret;exact⟨rfl,by go_grown⟩
 ·rcases cls9 h with rfl|rfl|rfl|rfl|rfl|rfl|rfl|rfl|rfl
  all_goals
   clear h;go_enter func192,ntmps192;go_wp2
   all_goals
    go_ret;exact⟨ret_bool (by simp[hasB, *]),by go_grown⟩
theorem fgreatest_any (f:Int) (w:World):Calls prog 194 #[.int .i64 f] w fun e w'=>e=.returned (.int .u64 (grV f))∧w'=w:=by
 by_cases h:f<1∨9<f
 ·have hw:=width_any f;rw[wdV_none h]at hw;rw[grV_none h];clear h;go_enter func194,ntmps194;go_wp2_with fail;refine(hw _).mono ?_;rintro x w1 ⟨rfl,rfl⟩;go_wp2_with fail;go_ret;exact⟨rfl,rfl⟩
 ·rcases cls9 h with rfl|rfl|rfl|rfl|rfl|rfl|rfl|rfl|rfl
  all_goals
   clear h;go_enter func194,ntmps194;go_wp2_with fail;refine(width_any _ _).mono ?_;rintro x w1 ⟨rfl,rfl⟩;simp only[show wdV 1=32 from rfl,show wdV 2=64 from rfl,show wdV 3=13 from rfl,show wdV 4=16 from rfl,show wdV 5=32 from rfl,show wdV 6=32 from rfl,show wdV 7=8 from rfl,show wdV 8=16 from rfl,show wdV 9=16 from rfl];go_wp2_with fail;go_ret;exact⟨rfl,rfl⟩
theorem has_field {s:Sn} {f:Int} (h:hasB s f=true) : ¬ (f<1∨9<f):=fun x=>by rw[hasB_none s x]at h;cases h
end Fd
end Go.Proofs.YtgnihbdcdefdgaaGreatDoor

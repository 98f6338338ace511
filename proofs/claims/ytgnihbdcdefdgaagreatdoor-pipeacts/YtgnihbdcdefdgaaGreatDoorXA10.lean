import Derived.Test.YtgnihbdcdefdgaaGreatDoorX27
import Derived.Test.YtgnihbdcdefdgaaGreatDoorXS1
import Derived.Test.YtgnihbdcdefdgaaGreatDoorX26
import Derived.Test.YtgnihbdcdefdgaaGreatDoorX28
import Derived.Test.YtgnihbdcdefdgaaGreatDoorX16
import Derived.Test.YtgnihbdcdefdgaaGreatDoorX02
import Derived.Test.YtgnihbdcdefdgaaGreatDoorX13
import Derived.Laws.AppendOwn
import Derived.Laws.OwnMore
set_option maxHeartbeats 16000000
set_option maxRecDepth 20000
set_option linter.unusedSimpArgs false
set_option linter.unusedVariables false
open Go.ChangeShapes Go.WideShapes Go.ChangeAt Go.RowKit
open Go.Proofs.Tryz
namespace Go.Proofs.YtgnihbdcdefdgaaGreatDoor
def Fp.k (x:Fp):Int × List Mt.T:=(x.pri,x.lt)
theorem twin_iff {x y:Fp}:twinB x y=true↔x.k=y.k:=by
 unfold twinB Fp.k Mt.sameB;simp[Prod.mk.injEq]
theorem ins_pairwise {α:Type} {R:α→α→Prop} {l:List α} {E:Nat} {k:α} (h:l.Pairwise R) (h1:∀ a∈l.take E,R a k) (h2:∀ b∈l.drop E,R k b):(l.take E++k::l.drop E).Pairwise R:=by
 rw[← List.take_append_drop E l]at h;rw[List.pairwise_append]at h ⊢;obtain⟨a1,a2,a3⟩:=h;refine⟨a1,List.pairwise_cons.2 ⟨h2,a2⟩,fun a ha b hb => ?_⟩;rcases List.mem_cons.1 hb with rfl|hb
 ·exact h1 a ha
 ·exact a3 a ha b hb
theorem end_before (p:Int):∀ (l:List Fp),∀ y∈l.take (endV p l),p≤y.pri
 | [],y,hy=>by simp[endV]at hy
 | z::l,y,hy=>by
   unfold endV at hy;split at hy
   ·simp at hy
   ·rename_i h;rw[List.take_succ_cons]at hy;rcases List.mem_cons.1 hy with rfl|hy
    ·omega
    ·exact end_before p l y hy
theorem end_after (p:Int):∀ (l:List Fp),(l.map Fp.k).Pairwise (fun a b=>b.1≤a.1)→∀ y∈l.drop (endV p l),y.pri<p
 | [],_,y,hy=>by simp[endV]at hy
 | z::l,hs,y,hy=>by
   rw[List.map_cons,List.pairwise_cons]at hs;unfold endV at hy;split at hy
   ·rename_i h;rw[List.drop_zero]at hy;rcases List.mem_cons.1 hy with rfl|hy
    ·exact h
    ·have:=hs.1 y.k (List.mem_map.2 ⟨y,hy,rfl⟩);simp only[Fp.k]at this;omega
   ·rw[List.drop_succ_cons]at hy;exact end_after p l hs.2 y hy
theorem put_ways (l:List Fp) (x:Fp):(∃ i,∃ h:i<l.length,l[i].k=x.k∧putL l x=l.set i x)∨((∀ y∈l,y.k≠x.k)∧putL l x=insL l x):=by
 unfold putL;cases hf:l.findIdx? (twinB x)with
 | none =>
   right;rw[List.findIdx?_eq_none_iff]at hf;refine⟨fun y hy e => ?_,rfl⟩;have h1:=hf y hy;have h2:=twin_iff.2 e.symm;rw[h2]at h1;cases h1
 | some i =>
   left;rw[List.findIdx?_eq_some_iff_getElem]at hf;obtain⟨hk,h1,_⟩:=hf;exact⟨i,hk,(twin_iff.1 h1).symm,rfl⟩
theorem set_k {l:List Fp} {i:Nat} {x:Fp} (h:i<l.length) (e:l[i].k=x.k):(l.set i x).map Fp.k=l.map Fp.k:=by
 rw[List.map_set,← e];have:l[i].k=(l.map Fp.k)[i]'(by simpa using h):=by simp
 rw[this];exact List.set_getElem_self _
theorem ins_k (l:List Fp) (x:Fp):(insL l x).map Fp.k=(l.map Fp.k).take (endV x.pri l)++x.k::(l.map Fp.k).drop (endV x.pri l):=by
 unfold insL;rw[List.map_append,List.map_cons,List.map_take,List.map_drop]
structure KI (l:List Fp):Prop where
 dn:(l.map Fp.k).Pairwise (fun a b=>b.1≤a.1)
 nd:(l.map Fp.k).Pairwise (fun a b=>a≠b)
 tw:∀ k∈l.map Fp.k,Mt.TWs k.2
theorem KI.nil:KI []:=⟨List.Pairwise.nil,List.Pairwise.nil,by simp⟩
theorem KI.of_k {l m:List Fp} (h:KI l) (e:m.map Fp.k=l.map Fp.k):KI m:=⟨by rw[e];exact h.dn,by rw[e];exact h.nd,by rw[e];exact h.tw⟩
theorem KI.sub {l m:List Fp} (h:KI l) (e:(m.map Fp.k).Sublist (l.map Fp.k)):KI m:=⟨h.dn.sublist e,h.nd.sublist e,fun k hk=>h.tw k (e.subset hk)⟩
theorem KI.put {l:List Fp} (h:KI l) {x:Fp} (hx:Mt.TWs x.lt):KI (putL l x):=by
 rcases put_ways l x with⟨i,hi,e,hp⟩|⟨hn,hp⟩
 ·rw[hp];exact h.of_k (set_k hi e)
 ·rw[hp];have mt:∀ a∈(l.map Fp.k).take (endV x.pri l),∃ y∈l.take (endV x.pri l),y.k=a:=fun a ha=>by rw[← List.map_take]at ha;exact List.mem_map.1 ha
  have md:∀ a∈(l.map Fp.k).drop (endV x.pri l),∃ y∈l.drop (endV x.pri l),y.k=a:=fun a ha=>by rw[← List.map_drop]at ha;exact List.mem_map.1 ha
  refine⟨?_,?_,?_⟩
  ·rw[ins_k];refine ins_pairwise h.dn (fun a ha => ?_) (fun b hb => ?_)
   ·obtain⟨y,hy,rfl⟩:=mt a ha;exact end_before _ _ y hy
   ·obtain⟨y,hy,rfl⟩:=md b hb;have:=end_after _ _ h.dn y hy;show y.pri≤x.pri;omega
  ·rw[ins_k];refine ins_pairwise h.nd (fun a ha => ?_) (fun b hb => ?_)
   ·obtain⟨y,hy,rfl⟩:=mt a ha;exact hn y (List.mem_of_mem_take hy)
   ·obtain⟨y,hy,rfl⟩:=md b hb;exact fun e=>hn y (List.mem_of_mem_drop hy) e.symm
  ·intro k hk;rw[ins_k]at hk;rcases List.mem_append.1 hk with hk|hk
   ·exact h.tw k (List.mem_of_mem_take hk)
   ·rcases List.mem_cons.1 hk with rfl|hk
    ·exact hx
    ·exact h.tw k (List.mem_of_mem_drop hk)
theorem KI.add {room:Int} {l:List Fp} (h:KI l) {x:Fp} (hx:Mt.TWs x.lt) (chk:Bool):KI (addL room l x chk):=by
 unfold addL;split
 ·exact h.put hx
 ·exact h
theorem KI.upd {P:Nat→List Fp} (h:∀ t,KI (P t)) {t:Nat} {l:List Fp} (hl:KI l):∀ u,KI (upd P t l u):=fun u=>by
 unfold Go.Proofs.YtgnihbdcdefdgaaGreatDoor.upd;split
 ·exact hl
 ·exact h u
def noCl (a b:Int × List Mt.T):Prop:=(a.1=b.1→Mt.meetsB a.2 b.2=false)∧(a.1=b.1→Mt.meetsB b.2 a.2=false)
def CI (l:List Fp):Prop:=(l.map Fp.k).Pairwise noCl
theorem clashT_sym (t u:Mt.T):Mt.clashT t u=Mt.clashT u t:=by
 unfold Mt.clashT;rw[Mt.feq_sym,Mt.clash_sym]
theorem meets_sym (a b:List Mt.T):Mt.meetsB a b=Mt.meetsB b a:=by
 apply Mt.bool_iff;unfold Mt.meetsB;simp only[List.all_eq_true];constructor
 ·intro h t ht u hu;have:=h u hu t ht;rwa [clashT_sym]at this
 ·intro h t ht u hu;have:=h u hu t ht;rwa [clashT_sym]at this
theorem CI.add {room:Int} {l:List Fp} (h:CI l) (x:Fp):CI (addL room l x true):=by
 unfold addL;split
 ·rename_i he;have hcl:l.any (clashB x)=false:=by
   cases hc:l.any (clashB x)with
   | false=>rfl
   | true =>
     unfold addE at he;rw[hc]at he;simp at he
  rw[List.any_eq_false]at hcl;have hno:∀ y∈l,noCl x.k y.k:=fun y hy=>by
   have h1:clashB x y=false:=by simpa using hcl y hy
   have h2:x.pri=y.pri→Mt.meetsB x.lt y.lt=false:=fun e=>by
    unfold clashB at h1;rw[e]at h1;simpa using h1
   exact⟨h2,fun e=>by rw[meets_sym];exact h2 e⟩
  rcases put_ways l x with⟨i,hi,e,hp⟩|⟨hn,hp⟩
  ·rw[hp];unfold CI;rw[set_k hi e];exact h
  ·rw[hp];unfold CI;rw[ins_k];refine ins_pairwise h (fun a ha => ?_) (fun b hb => ?_)
   ·rw[← List.map_take]at ha;obtain⟨y,hy,rfl⟩:=List.mem_map.1 ha;have:=hno y (List.mem_of_mem_take hy);exact⟨fun e=>this.2 e.symm,fun e=>this.1 e.symm⟩
   ·rw[← List.map_drop]at hb;obtain⟨y,hy,rfl⟩:=List.mem_map.1 hb;exact hno y (List.mem_of_mem_drop hy)
 ·exact h
theorem CI.addT {room:Int} {P:Nat→List Fp} (h:∀ t,CI (P t)) (x:Fp):∀ t,CI (addT room P x true t):=by
 unfold Go.Proofs.YtgnihbdcdefdgaaGreatDoor.addT;split
 ·intro u;unfold Go.Proofs.YtgnihbdcdefdgaaGreatDoor.upd;split
  ·exact(h _).add x
  ·exact h u
 ·exact h
def cntT (l:List Fp) (x:Fp):Nat:=(l.filter fun y=>twinB y x).length
theorem one_of {α:Type} {l:List α} (c:α) (h:l.Pairwise (fun a b=>a≠b)) (he:∀ a∈l,a=c):l.length≤1:=by
 match l,h,he with
 | [],_,_=>simp
 | [_],_,_=>simp
 | a::b::r,h,he =>
   rw[List.pairwise_cons]at h;exact absurd ((he a (by simp)).trans (he b (by simp)).symm) (h.1 b (by simp))
theorem KI.cnt {l:List Fp} (h:KI l) (x:Fp):cntT l x≤1:=by
 unfold cntT;have h1:(((l.filter fun y=>twinB y x)).map Fp.k).Pairwise (fun a b=>a≠b):=h.nd.sublist (List.Sublist.map _ List.filter_sublist);have h2:=one_of x.k h1 (fun a ha=>by
  obtain⟨y,hy,rfl⟩:=List.mem_map.1 ha;exact twin_iff.1 (List.mem_filter.1 hy).2)
 simpa using h2
theorem KI.same {l:List Fp} (h:KI l) {x y:Fp} (hx:x∈l) (hy:y∈l) (e:y.k=x.k):y=x:=by
 obtain⟨i,hi,rfl⟩:=List.mem_iff_getElem.1 hx;obtain⟨j,hj,rfl⟩:=List.mem_iff_getElem.1 hy;have hp:=List.pairwise_iff_getElem.1 h.nd;rcases Nat.lt_trichotomy i j with hlt|rfl|hlt
 ·exact absurd (by rw[List.getElem_map,List.getElem_map];exact e.symm) (hp i j (by simpa using hi) (by simpa using hj) hlt)
 ·rfl
 ·exact absurd (by rw[List.getElem_map,List.getElem_map];exact e) (hp j i (by simpa using hj) (by simpa using hi) hlt)
theorem mem_put (l:List Fp) (x:Fp):x∈putL l x:=by
 rcases put_ways l x with⟨i,hi,e,hp⟩|⟨hn,hp⟩
 ·rw[hp];exact List.mem_set hi x
 ·rw[hp];unfold insL;exact List.mem_append_right _ (List.mem_cons_self)
theorem KI.tab {P:Nat→List Fp} (h:∀ t,KI (P t)) (t:Int):KI (tabOf P t):=by
 unfold tabOf;split
 ·exact h _
 ·exact KI.nil
namespace Mt
theorem rwidth_any (f:Int) (w:World):Calls prog 142 #[.int .i64 f] w fun e w'=>e=.returned (.int .i64 (wdV f))∧Below w.heap.size w w':=by
 by_cases h:f<1∨9<f
 ·rw[wdV_none h];rcases h with h|h
  ·go_enter func142,ntmps142;go_wp2;go_ret;exact⟨rfl,by go_grown⟩
  ·have h1 : ¬ f<1:=by omega
   go_enter func142,ntmps142;go_wp2;go_ret;exact⟨rfl,by go_grown⟩
 ·rcases cls9 h with rfl|rfl|rfl|rfl|rfl|rfl|rfl|rfl|rfl
  all_goals
   clear h;go_enter func142,ntmps142;go_wp2;go_ret;exact⟨rfl,by go_grown⟩
theorem rall_any (f:Int) (w:World):Calls prog 143 #[.int .i64 f] w fun e w'=>e=.returned (.int .u64 (grV f))∧Below w.heap.size w w':=by
 by_cases h:f<1∨9<f
 ·have hw:=rwidth_any f;rw[wdV_none h]at hw;rw[grV_none h];clear h;go_enter func143,ntmps143;go_wp2_with fail;refine(hw _).mono ?_;rintro x w1 ⟨rfl,g1⟩;go_wp2_with fail;go_ret;exact⟨rfl,g1⟩
 ·rcases cls9 h with rfl|rfl|rfl|rfl|rfl|rfl|rfl|rfl|rfl
  all_goals
   clear h;go_enter func143,ntmps143;go_wp2_with fail;refine(rwidth_any _ _).mono ?_;rintro x w1 ⟨rfl,g1⟩;simp only[show wdV 1=32 from rfl,show wdV 2=64 from rfl,show wdV 3=13 from rfl,show wdV 4=16 from rfl,show wdV 5=32 from rfl,show wdV 6=32 from rfl,show wdV 7=8 from rfl,show wdV 8=16 from rfl,show wdV 9=16 from rfl];go_wp2_with fail;go_ret;exact⟨rfl,g1⟩
theorem wholeV_drop (l:List T) (n k:Nat) (f:Int) (hn:n≤l.length) (hk:k<n) :
 wholeV ((l.take n).drop k) f=if (l[k]'(by omega)).1=f∧(l[k]'(by omega)).2.2=grV f then some (l[k]'(by omega)).2.1 else wholeV ((l.take n).drop (k+1)) f:=by
 have hlen:k<(l.take n).length:=by rw[List.length_take];omega
 rw[List.drop_eq_getElem_cons hlen,List.getElem_take];by_cases h:(l[k]'(by omega)).1=f∧(l[k]'(by omega)).2.2=grV f
 ·rw[if_pos h];simp[wholeV,h.1,h.2]
 ·rw[if_neg h];have:((l[k]'(by omega)).1==f&&(l[k]'(by omega)).2.2==grV f)=false:=by
   rw[Bool.and_eq_false_iff,beq_eq_false_iff_ne,beq_eq_false_iff_ne];by_cases h1:(l[k]'(by omega)).1=f
   ·exact .inr fun h2=>h ⟨h1,h2⟩
   ·exact .inl h1
  simp[wholeV,this]
theorem rwhole_any (a:Option Addr) (l:List T) (cap:Nat) (f:Int) (n:Nat) (w:World) (h:Ts w a l) (hl:l.length≤100000) (hn:n≤l.length) :
 Calls prog 144 #[.slice a l.length cap,.int .i64 f,.int .i64 n] w fun e w'=>e=.returned (.tuple #[.int .u64 ((wholeV (l.take n) f).getD 0),.bool (wholeV (l.take n) f).isSome])∧Below w.heap.size w w':=by
 have HA:Hid (∀ w,Calls prog 143 #[.int .i64 f] w fun e w'=>e=.returned (.int .u64 (grV f))∧Below w.heap.size w w'):=fun w=>rall_any f w;generalize hR:wholeV (l.take n) f=R;have HX:Hid (∀ k (hk:k<n),wholeV ((l.take n).drop k) f=if (l[k]'(by omega)).1=f∧(l[k]'(by omega)).2.2=grV f then some (l[k]'(by omega)).2.1 else wholeV ((l.take n).drop (k+1)) f):=fun k hk=>wholeV_drop l n k f hn hk;go_enter func144,ntmps144;go_wp2_with fail;go_loopw [8] (fun i wr=>∃ k:Nat,k≤n∧i=.int .i64 k∧wholeV ((l.take n).drop k) f=R∧Below w.heap.size w wr) (fun i _=>n-(intOf i).toNat);case atStart=>exact⟨0,by omega,rfl,hR,Below.refl _ _⟩
 case round =>
  obtain⟨k,hk,rfl,hr,hbel⟩:=hrel;by_cases hlt:k<n
  ·have hkl:k<l.length:=by omega
   have hT:=h.below hbel;obtain⟨g,o,rfl,hg,hcs⟩:=hT.at hkl;have hc:=hcs k hkl;have q:=C3.gr hc hg;have q0:=fun n=>(q n).1;have q2:=fun n=>(q n).2.2;clear q;have hx:=HX.out k hlt;rw[hr]at hx;cases h1:(l[k].1==f)with
   | false =>
     have hne : ¬ l[k].1=f:=by simpa using h1
     have HY:Hid (wholeV ((l.take n).drop (k+1)) f=R):=(show _=_ by rw[hx,if_neg (fun y=>hne y.1)])
     clear hx hr hR;go_wp2_with fail;refine wp_region_grow (by kernel_rfl) (by kernel_rfl) ?_;repeat (go_big_quiet_step (first|(go_at_call 143;exact quiet_gr (HA.out _))))
     refine wpQuiet_nil ?_;rintro w2 hw';have g2:=gr_elim hw';clear hw';have g3:Below w.heap.size w w2:=btr hbel g2 (Nat.le_refl _);go_wp2_with fail;go_roundw;case rel=>exact⟨k+1,by omega,by go_num,HY.out,g3⟩
     case measure=>simp[intOf];omega
   | true =>
     have he:l[k].1=f:=by simpa using h1
     cases h2:(l[k].2.2==grV f)with
     | false =>
       have hne : ¬ l[k].2.2=grV f:=by simpa using h2
       have HY:Hid (wholeV ((l.take n).drop (k+1)) f=R):=(show _=_ by rw[hx,if_neg (fun y=>hne y.2)])
       clear hx hr hR he hne;go_wp2_with fail;refine wp_region_grow (by kernel_rfl) (by kernel_rfl) ?_;repeat (go_big_quiet_step (first|(go_at_call 143;exact quiet_gr (HA.out _))))
       refine wpQuiet_nil ?_;rintro w2 hw';have g2:=gr_elim hw';clear hw';have g3:Below w.heap.size w w2:=btr hbel g2 (Nat.le_refl _);try rw[h2]
       go_wp2_with fail;go_roundw;case rel=>exact⟨k+1,by omega,by go_num,HY.out,g3⟩
       case measure=>simp[intOf];omega
     | true =>
       have he2:l[k].2.2=grV f:=by simpa using h2
       have HY:Hid (R=some l[k].2.1):=(show _=_ by rw[hx,if_pos ⟨he,he2⟩])
       clear hx hr hR he he2;go_wp2_with fail;refine wp_region_grow (by kernel_rfl) (by kernel_rfl) ?_;repeat (go_big_quiet_step (first|(go_at_call 143;exact quiet_gr (HA.out _))))
       refine wpQuiet_nil ?_;rintro w2 hw';have g2:=gr_elim hw';clear hw';obtain⟨c0,c1,c2⟩:=C3.below (t:=l[k]) hc hg g2;have g3:Below w.heap.size w w2:=btr hbel g2 (Nat.le_refl _);try rw[h2]
       go_wp2_with fail;go_ret2
       exact⟨by rw[HY.out];rfl,g3⟩
  ·have hk':k=n:=by omega
   subst hk';have e:R=none:=by
    rw[← hr,List.drop_of_length_le (by rw[List.length_take];omega)];rfl
   go_wp2_with fail;go_ret2
   exact⟨by rw[e];rfl,hbel⟩
theorem plain_any (s:Sn) (w:World):Calls prog 16 #[snV s] w fun e w'=>e=.returned (snV s)∧Below w.heap.size w w':=by
 go_enter func16,ntmps16;go_wp2;refine bodyPost_ret (res32 (b:=w.heap.size+1) (s:=s) rfl rfl (by unfold Bx;simp)) rfl ?_;exact⟨rfl,by go_grown⟩
theorem rhas_any (s:Sn) (f:Int) (w:World):Calls prog 154 #[snV s,.int .i64 f] w fun e w'=>e=.returned (.bool (hasB s f))∧Below w.heap.size w w':=by
 by_cases h:f<1∨9<f
 ·rw[hasB_none s h];rcases h with h|h
  ·go_enter func154,ntmps154;go_wp2;go_ret;exact⟨rfl,by go_grown⟩
  ·go_enter func154,ntmps154;go_wp2;go_ret;exact⟨rfl,by go_grown⟩
 ·rcases cls9 h with rfl|rfl|rfl|rfl|rfl|rfl|rfl|rfl|rfl
  all_goals
   clear h;go_enter func154,ntmps154;go_wp2
   all_goals
    go_ret;exact⟨ret_bool (by simp_all [hasB]),by go_grown⟩
theorem rlow_any (f v:Int) (w:World) (hf : ¬ (f<1∨9<f)) (h0:0≤v) (h1:v<18446744073709551616):Calls prog 155 #[.int .u64 v,.int .i64 (wdV f)] w fun e w'=>e=.returned (.int .u64 (v % (grV f+1)))∧w'=w:=by
 have ha:=and_gr f v hf h0 h1;by_cases h2:f=2
 ·subst h2;have e:v % (grV 2+1)=v:=by simp only[show grV 2=18446744073709551615 from rfl];omega
  rw[e];clear ha hf;simp only[show wdV 2=64 from rfl];go_enter func155,ntmps155;go_wp2;go_ret;exact⟨rfl,rfl⟩
 ·rw[← ha];rcases cls9 hf with rfl|rfl|rfl|rfl|rfl|rfl|rfl|rfl|rfl;case inr.inl=>exact absurd rfl h2
  all_goals
   clear hf ha h2;simp only[show wdV 1=32 from rfl,show wdV 3=13 from rfl,show wdV 4=16 from rfl,show wdV 5=32 from rfl,show wdV 6=32 from rfl,show wdV 7=8 from rfl,show wdV 8=16 from rfl,show wdV 9=16 from rfl];go_enter func155,ntmps155;go_wp2;go_ret;exact⟨rfl,rfl⟩
theorem rget_no (s:Sn) (f:Int) (w:World) (hb:hasB s f=false):Calls prog 113 #[snV s,.int .i64 f] w fun e w'=>e=.returned (.tuple #[.int .u64 0,.int .i64 20])∧Below w.heap.size w w':=by
 have HH:Hid (∀ w,Calls prog 154 #[snV s,.int .i64 f] w fun e w'=>e=.returned (.bool false)∧Below w.heap.size w w'):=fun w=>hb ▸ rhas_any s f w;go_enter func113,ntmps113;go_wp2_with fail;refine(HH.out _).mono ?_;rintro x w1 ⟨rfl,g1⟩;go_wp2_with fail;go_ret2
 exact⟨rfl,btr (by go_grown) g1 (by simp)⟩
abbrev row (s:Sn):Array Value:=#[.int .u64 (IntKind.u64.wrap s.inp),.int .u64 s.mt,.int .u64 (IntKind.u64.wrap s.vl),.int .u64 (IntKind.u64.wrap s.ty),.int .u64 (IntKind.u64.wrap s.src),.int .u64 (IntKind.u64.wrap s.dst),.int .u64 (IntKind.u64.wrap s.pro),.int .u64 (IntKind.u64.wrap s.sp),.int .u64 (IntKind.u64.wrap s.dp)]
theorem row_at (s:Sn) (f:Int) (hw:Wf s) (hf : ¬ (f<1∨9<f)):(row s)[f.toNat-1]? = some (.int .u64 (stV s f)):=by
 obtain⟨m0,m1,a0,a1,c0,c1⟩:=hw;rcases cls9 hf with rfl|rfl|rfl|rfl|rfl|rfl|rfl|rfl|rfl;all_goals simp[stV,wrap_u]
 all_goals omega
theorem rget_yes (s:Sn) (f k v r:Int) (w:World) (f1:1≤f) (f9:f≤9) (hv:(row s)[f.toNat-1]? = some (.int .u64 v))
 (HH:Hid (∀ w,Calls prog 154 #[snV s,.int .i64 f] w fun e w'=>e=.returned (.bool true)∧Below w.heap.size w w'))
 (HW:Hid (∀ w,Calls prog 142 #[.int .i64 f] w fun e w'=>e=.returned (.int .i64 k)∧Below w.heap.size w w'))
 (HL:Hid (∀ w,Calls prog 155 #[.int .u64 v,.int .i64 k] w fun e w'=>e=.returned (.int .u64 r)∧w'=w)) :
 Calls prog 113 #[snV s,.int .i64 f] w fun e w'=>e=.returned (.tuple #[.int .u64 r,.int .i64 0])∧Below w.heap.size w w':=by
 have HV:Hid ((row s)[f.toNat-1]? = some (.int .u64 v)):=hv;clear hv;go_enter func113,ntmps113;go_wp2_with fail;refine(HH.out _).mono ?_;rintro x w1 ⟨rfl,g1⟩;have hc:=(Bx.newr w s).below (by simp) g1;obtain⟨h0,h1,h2,h3,h4,h5,h6,h7,h8,h9,h10,h11,h12⟩:=hc;go_wp2_with fail;clear h0 h1 h2 h3 h4 h5 h6 h7 h8 h9 h10 h11 h12;have hc:∀ n:GrT (w1.alloc (.cells (row s) 44)),n.w.cell? ⟨w1.heap.size,f.toNat-1,none⟩=some (.int .u64 v):=fun n=>(n.h.cell (by simp)).trans (by have:=HV.out;simpa using this);refine wp_region_grow (by kernel_rfl) (by kernel_rfl) ?_;repeat (go_big_quiet_step (first|(go_at_call 142;exact quiet_gr (HW.out _))|(go_at_call 155;exact quiet_gs (HL.out _))))
 refine wpQuiet_nil ?_;rintro w2 hw';have g2:=gr_elim hw';clear hw';go_wp2_with fail;go_ret2
 exact⟨rfl,btr (btr (btr (by go_grown) g1 (by simp)) (by go_grown) (Nat.le_refl _)) g2 (Nat.le_refl _)⟩
theorem rget_any (s:Sn) (f:Int) (w:World) (hw:Wf s):Calls prog 113 #[snV s,.int .i64 f] w fun e w'=>e=.returned (.tuple #[.int .u64 (getV s f),.int .i64 (getE s f)])∧Below w.heap.size w w':=by
 unfold getV getE;cases hb:hasB s f with
 | false=>exact rget_no s f w hb
 | true =>
   have hf:=has_field hb;obtain⟨t0,t1⟩:=stV_lt s f hw;exact rget_yes s f (wdV f) (stV s f) (stV s f % (grV f+1)) w (by omega) (by omega) (row_at s f hw hf) (fun w=>hb ▸ rhas_any s f w) (fun w=>rwidth_any f w) (fun w=>rlow_any f _ w hf t0 t1)
theorem rtakes_any (a:Option Addr) (l:List T) (cap:Nat) (s:Sn) (w:World) (h:Ts w a l) (hl:l.length≤100000) (hw:Wf s) :
 Calls prog 73 #[.slice a l.length cap,snV s] w fun e w'=>e=.returned (.bool (takesB l s))∧Below w.heap.size w w':=by
 have HG:Hid (∀ f w,Calls prog 113 #[snV s,.int .i64 f] w fun e w'=>e=.returned (.tuple #[.int .u64 (getV s f),.int .i64 (getE s f)])∧Below w.heap.size w w'):=fun f w=>rget_any s f w hw;unfold takesB;go_enter func73,ntmps73;go_wp2;go_loopw [5] (fun i wr=>∃ k:Nat,k≤l.length∧i=.int .i64 k∧(l.take k).all (takeT s)=true∧Bx wr w.heap.size s∧w.heap.size<wr.heap.size∧Below w.heap.size w wr) (fun i _=>l.length-(intOf i).toNat);case atStart=>exact⟨0,by omega,rfl,by simp,Bx.newr w s,by simp,by go_grown⟩
 case round =>
  obtain⟨k,hk,rfl,hn,hb,hsz,hbel⟩:=hrel;by_cases hlt:k<l.length
  ·have hT:=h.below hbel;obtain⟨g,o,rfl,hg,hc⟩:=hT.at hlt;have hck:=hc k hlt;have hs:=all_snoc l (takeT s) k hlt;rw[hn,Bool.true_and]at hs;have ht:takeT s l[k]=((getE s l[k].1==0)&&(bits .and .u64 (getV s l[k].1) l[k].2.2==l[k].2.1)):=rfl;have q:∀ n:GrT wr,Bx n.w w.heap.size s:=fun n=>hb.below hsz n.h;have q0:=fun n=>(q n).1;have q1:=fun n=>(q n).2.1;have q2:=fun n=>(q n).2.2.1;have q3:=fun n=>(q n).2.2.2.1;have q4:=fun n=>(q n).2.2.2.2.1;have q5:=fun n=>(q n).2.2.2.2.2.1;have q6:=fun n=>(q n).2.2.2.2.2.2.1;have q7:=fun n=>(q n).2.2.2.2.2.2.2.1;have q8:=fun n=>(q n).2.2.2.2.2.2.2.2.1;have q9:=fun n=>(q n).2.2.2.2.2.2.2.2.2.1;have q10:=fun n=>(q n).2.2.2.2.2.2.2.2.2.2.1;have q11:=fun n=>(q n).2.2.2.2.2.2.2.2.2.2.2.1;have q12:=fun n=>(q n).2.2.2.2.2.2.2.2.2.2.2.2;clear q;have p:=C3.gr hck hg;have p0:=fun n=>(p n).1;clear p;go_wp2;refine wp_region_grow (by kernel_rfl) (by kernel_rfl) ?_;repeat (go_big_quiet_step (first|(go_at_call 113;exact quiet_gr (HG.out _ _))))
   refine wpQuiet_nil ?_;rintro w1 hw';have g1:=gr_elim hw';clear hw' q0 q1 q2 q3 q4 q5 q6 q7 q8 q9 q10 q11 q12 p0;have hck1:=C3.below (t:=l[k]) hck hg g1;have hg1:=Nat.lt_of_lt_of_le hg g1.size;have p:=C3.gr hck1 hg1;have p1:=fun n=>(p n).2.1;have p2:=fun n=>(p n).2.2;clear p;have hb1:=hb.below hsz g1;have hsz1:=Nat.lt_of_lt_of_le hsz g1.size;have b1:=btr hbel g1 (Nat.le_refl _);generalize getE s l[k].1=e at *
   generalize getV s l[k].1=v at *
   cases f1:(e != 0)
   ·have e0:(e==0)=true:=by simpa using f1
    cases f2:(bits .and .u64 v l[k].2.2 != l[k].2.1)
    ·have e2:(bits .and .u64 v l[k].2.2==l[k].2.1)=true:=by simpa using f2
     have HE:Hid ((l.take (k+1)).all (takeT s)=true):=(show _=_ by rw[hs,ht,e0,e2];rfl)
     clear hs ht hn e0 e2;go_wp2_with fail;refine wp_region_grow (by kernel_rfl) (by kernel_rfl) ?_;repeat (go_big_quiet_step (fail))
     refine wpQuiet_nil ?_;rintro w2 hw';have g2:=gr_elim hw';clear hw';try rw[f2]
     go_wp2_with fail;go_roundw;case rel=>exact⟨k+1,by omega,by go_num,HE.out,hb1.below hsz1 g2,Nat.lt_of_lt_of_le hsz1 g2.size,btr b1 g2 (Nat.le_refl _)⟩
     case measure=>simp[intOf];omega
    ·have e2:(bits .and .u64 v l[k].2.2==l[k].2.1)=false:=by simpa using f2
     have HE:Hid (l.all (takeT s)=false):=(show _=_ from all_of_take l _ (k+1) (by rw[hs,ht,e0,e2];rfl))
     clear hs ht hn e0 e2;go_wp2_with fail;refine wp_region_grow (by kernel_rfl) (by kernel_rfl) ?_;repeat (go_big_quiet_step (fail))
     refine wpQuiet_nil ?_;rintro w2 hw';have g2:=gr_elim hw';clear hw';try rw[f2]
     go_wp2_with fail;go_ret;exact⟨by rw[HE.out];rfl,btr b1 g2 (Nat.le_refl _)⟩
   ·have e0:(e==0)=false:=by simpa using f1
    have HE:Hid (l.all (takeT s)=false):=(show _=_ from all_of_take l _ (k+1) (by rw[hs,ht,e0];rfl))
    clear hs ht hn e0;go_wp2_with fail;refine wp_region_grow (by kernel_rfl) (by kernel_rfl) ?_;repeat (go_big_quiet_step (fail))
    refine wpQuiet_nil ?_;rintro w2 hw';have g2:=gr_elim hw';clear hw';go_wp2_with fail;go_ret;exact⟨by rw[HE.out];rfl,btr b1 g2 (Nat.le_refl _)⟩
  ·have hk':k=l.length:=by omega
   subst hk';rw[List.take_length]at hn;go_wp2;go_ret;exact⟨by rw[hn];rfl,hbel⟩
end Mt
theorem be_gr {W:World} {b o:Nat} {x:Fe} (h:Be W b o x) (hb:b<W.heap.size):(∀ n:GrT W,n.w.cell? ⟨b,o,none⟩=some (.int .i64 x.p.tab))∧(∀ n:GrT W,n.w.cell? ⟨b,o+1,none⟩=some (.int .i64 x.p.pri))∧(∀ n:GrT W,n.w.cell? ⟨b,o+2,none⟩=some (.slice x.ta x.p.lt.length x.tc))∧(∀ n:GrT W,n.w.cell? ⟨b,o+3,none⟩=some (.slice x.aa x.p.la.length x.ca))∧(∀ n:GrT W,n.w.cell? ⟨b,o+4,none⟩=some (.slice x.aw x.p.lw.length x.cw))∧(∀ n:GrT W,n.w.cell? ⟨b,o+5,none⟩=some (.bool x.p.clr))∧(∀ n:GrT W,n.w.cell? ⟨b,o+6,none⟩=some (.int .u64 x.p.mt))∧(∀ n:GrT W,n.w.cell? ⟨b,o+7,none⟩=some (.int .u64 x.p.mm))∧(∀ n:GrT W,n.w.cell? ⟨b,o+8,none⟩=some (.int .i64 x.p.met))∧(∀ n:GrT W,n.w.cell? ⟨b,o+9,none⟩=some (.int .i64 x.p.go)) :=
 ⟨fun n=>h.gr hb n 0 _ rfl,fun n=>h.gr hb n 1 _ rfl,fun n=>h.gr hb n 2 _ rfl,fun n=>h.gr hb n 3 _ rfl,fun n=>h.gr hb n 4 _ rfl,fun n=>h.gr hb n 5 _ rfl,fun n=>h.gr hb n 6 _ rfl,fun n=>h.gr hb n 7 _ rfl,fun n=>h.gr hb n 8 _ rfl,fun n=>h.gr hb n 9 _ rfl⟩
theorem sn_gr {W:World} {b:Nat} {s:Mt.Sn} (h:W.rangeAt b 0 (Mt.snC s).toList) (hb:b<W.heap.size):(∀ n:GrT W,n.w.cell? ⟨b,0,none⟩=some (.int .i64 s.inp))∧(∀ n:GrT W,n.w.cell? ⟨b,1,none⟩=some (.int .u64 s.mt))∧(∀ n:GrT W,n.w.cell? ⟨b,2,none⟩=some (.int .u64 s.to))∧(∀ n:GrT W,n.w.cell? ⟨b,3,none⟩=some (.int .u64 s.fr))∧(∀ n:GrT W,n.w.cell? ⟨b,4,none⟩=some (.int .i64 s.vl))∧(∀ n:GrT W,n.w.cell? ⟨b,5,none⟩=some (.int .i64 s.ty))∧(∀ n:GrT W,n.w.cell? ⟨b,6,none⟩=some (.int .u32 s.src))∧(∀ n:GrT W,n.w.cell? ⟨b,7,none⟩=some (.int .u32 s.dst))∧(∀ n:GrT W,n.w.cell? ⟨b,8,none⟩=some (.int .i64 s.life))∧(∀ n:GrT W,n.w.cell? ⟨b,9,none⟩=some (.int .i64 s.pro))∧(∀ n:GrT W,n.w.cell? ⟨b,10,none⟩=some (.int .i64 s.sp))∧(∀ n:GrT W,n.w.cell? ⟨b,11,none⟩=some (.int .i64 s.dp))∧(∀ n:GrT W,n.w.cell? ⟨b,12,none⟩=some (.string s.data)):=by
 have k:∀ (n:GrT W) (j:Nat) (v:Value),(Mt.snC s).toList[j]? = some v→n.w.cell? ⟨b,j,none⟩=some v:=fun n j v hv=>by
  have h1:=h j v hv;rw[Nat.zero_add]at h1;exact(n.h.cell (p:=⟨b,j,none⟩) hb).trans h1
 exact⟨fun n=>k n 0 _ rfl,fun n=>k n 1 _ rfl,fun n=>k n 2 _ rfl,fun n=>k n 3 _ rfl,fun n=>k n 4 _ rfl,fun n=>k n 5 _ rfl,fun n=>k n 6 _ rfl,fun n=>k n 7 _ rfl,fun n=>k n 8 _ rfl,fun n=>k n 9 _ rfl,fun n=>k n 10 _ rfl,fun n=>k n 11 _ rfl,fun n=>k n 12 _ rfl⟩
theorem pieces_at:∀ (k:Nat) (n:Int) (j:Nat),j<k→(pieces n k)[j]? = some (n/2 ^ (8*(k-1-j)) % 256)
 | 0,_,_,h=>absurd h (Nat.not_lt_zero _)
 | k+1,n,j,h=>by
   by_cases hj:j<k
   ·rw[pieces,List.getElem?_append_left (by rw[pieces_length];exact hj),pieces_at k (n/256) j hj];have e:k+1-1-j=(k-1-j)+1:=by omega
    rw[e,Int.ediv_ediv_of_nonneg (by omega)];have e2:8*(k-1-j+1)=8+8*(k-1-j):=by omega
    rw[e2,Int.pow_add];rfl
   ·have:j=k:=by omega
    subst this;rw[pieces,List.getElem?_append_right (by rw[pieces_length];exact Nat.le_refl _),pieces_length];simp
theorem pieces_take (k:Nat) (n:Int) (j:Nat) (h:j<k):(pieces n k).take (j+1)=(pieces n k).take j++[n/2 ^ (8*(k-1-j)) % 256]:=by
 rw[List.take_add_one,pieces_at k n j h];rfl
theorem cv_own (w:World) (base:Nat) (v:Value) (k:Nat) (xs:List Int) (hk:1≤k) (h:w.ownsRow base 5 1 v k (xs.map (Value.int .u8))) :
 ∃ g cap,v=.slice (some ⟨g,0,none⟩) k cap∧(convert 254 9 (.slice (some ⟨g,0,none⟩) k cap)).run prog w=.ok (.string (strOfNums xs)) w:=by
 have hl:=h.1;rcases h.2 with⟨_,h'⟩|⟨g,cap,cur,rfl,_⟩
 ·omega
 ·refine⟨g,cap,rfl,run_convert_bytes_arg w 254 5 underlying254 underlying5 g 0 k cap xs (by simpa using hl) (fun i hi => ?_) 9 underlying9⟩;rw[Nat.zero_add,h.cellAt i (by omega)];have hi':i<xs.length:=by simp at hl;omega
  simp[List.getElem?_eq_getElem hi']
theorem rput_any (n:Int) (k:Nat) (w:World) (hk1:1≤k) (hk8:k≤8) (_:0≤n) (h1:n<18446744073709551616) :
 Calls prog 161 #[.int .u64 n,.int .i64 k] w fun e w'=>e=.returned (.string (pb n k))∧Below w.heap.size w w':=by
 obtain⟨i0,hi,hz0,hz1,hz2⟩:=info_parts infoB;have H1:Hid (n<18446744073709551616):=h1;clear h1;go_enter func161,ntmps161;go_wp2
 go_loopw [5,6] (fun v i wr=>∃ j:Nat,j≤k∧i=.int .i64 ((k:Int)-1-j)∧wr.ownsRow w.heap.size 5 1 v j (((pieces n k).take j).map (Value.int .u8))∧Below w.heap.size w wr)
  (fun _ i _=>(1+intOf i).toNat)
 case atStart=>exact⟨0,Nat.zero_le _,by simp,World.ownsRow_nil _ _ _ _,Below.refl _ _⟩
 case round =>
  obtain⟨j,hj,rfl,hown,hbel⟩:=hrel;by_cases hlt:j<k
  ·go_wp2_with (at_builtin;refine wpList_append_own _ rfl _ _ 254 rfl (w.heap.size) 5 i0 (.int .u8 0) 1 1 underlying254 hi hz0 hz1 hz2 rfl (by decide) _ _ _ rfl (hown.alloc _) ⟨wr.heap.size,0,none⟩ 1 1 [.int .u8 (n/2 ^ (8*(k-1-j)) % 256)] rfl rfl ?c1 ?c2 ?c3 ?c4 ?c5 ?_);case c1 =>
    intro j u hj;match j,hj with
    | 0,hj=>simp at hj;subst hj;simp[Addr.add]
   case c2=>intro u hu;simp at hu;subst hu;rfl
   case c3=>unfold maxLen;omega
   case c4=>omega
   case c5=>have:=hbel.size;simp;omega
   ·intro v' w1 hown' hgrow _;have R1:w1.ownsRow w.heap.size 5 1 v' (j+1) (((pieces n k).take (j+1)).map (Value.int .u8)):=by
     rw[pieces_take k n j hlt];simpa using hown'
    have R2:Below w.heap.size w w1:=(hbel.alloc hbel.size _).grown hgrow (by have:=hbel.size;simp;omega) (fun q hq=>(hown.lt q hq).1);clear hown' hgrow hown hbel;go_wp2;go_roundw;case rel=>exact⟨j+1,by omega,by go_num,R1,R2⟩
    case measure=>simp[intOf];omega
  ·obtain rfl:j=k:=by omega
   rw[List.take_of_length_le (by rw[pieces_length];exact Nat.le_refl _)]at hown;obtain⟨g,cap,rfl,hcv⟩:=cv_own wr _ _ _ _ hk1 hown;clear hown;go_wp2;go_ret;exact⟨rfl,hbel⟩
end Go.Proofs.YtgnihbdcdefdgaaGreatDoor

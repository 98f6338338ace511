import Derived.Test.YtgnihbdcdefdgaaGreatDoorX22
import Derived.Test.YtgnihbdcdefdgaaGreatDoorX01
import Derived.Test.YtgnihbdcdefdgaaGreatDoorX21
set_option maxHeartbeats 8000000
set_option maxRecDepth 20000
set_option linter.unusedVariables false
open Go.ChangeShapes Go.WideShapes Go.ChangeAt Go.RowKit
open Go.Proofs.Tryz
namespace Go.Proofs.YtgnihbdcdefdgaaGreatDoor
namespace Gp
open Go.Maps
abbrev P3:=Int × Int × List B3
def Rc (M:List P3) (g:P3) (z:Int):Prop :=
 ∀ C:Int→Prop,(∀ x∈rawL g.2.2,C x)→(∀ (x y:Int) (h:P3),C x→h∈M→h.1=x→y∈rawL h.2.2→C y)→C z
theorem Rc.base {M:List P3} {g:P3} {x:Int} (h:x∈rawL g.2.2):Rc M g x:=fun _ h1 _=>h1 x h
theorem Rc.step {M:List P3} {g:P3} {x y:Int} {h:P3} (hr:Rc M g x) (hm:h∈M) (he:h.1=x) (hy:y∈rawL h.2.2):Rc M g y:=fun C h1 h2=>h2 x y h (hr C h1 h2) hm he hy
def Cl (L:List Gr):Prop:=∀ h∈L,∀ y∈rawL (h.l.map Bk.b3),hasP L y=true
theorem nodup_le:∀ {ext ids:List Int},ext.Nodup→(∀ x∈ext,x∈ids)→ext.length≤ids.length
 | [],_,_,_=>Nat.zero_le _
 | x::ext,ids,hn,hm=>by
   obtain⟨h1,h2⟩:=List.nodup_cons.1 hn;have hx:=hm x (by simp);have:=nodup_le (ids:=ids.erase x) h2 (fun y hy=>(List.mem_erase_of_ne (fun e=>h1 (by rw[← e];exact hy))).2 (hm y (by simp[hy])));rw[List.length_erase_of_mem hx]at this;have hp:0<ids.length:=List.length_pos_of_mem hx;simp only[List.length_cons];omega
structure RcI (w0:World) (L:List Gr) (g:Gr) (zs0:List Int) (v:Value) (zs:List Int) (wr:World):Prop where
 own:OwnI w0.heap.size wr v zs
 bel:Below w0.heap.size w0 wr
 snd:∀ x∈zs,Rc (L.map Gr.p) g.p x
 all:∀ x∈rawL (g.l.map Bk.b3),x∈zs
 has:∀ x∈zs,hasP L x=true
 ext:∃ t,zs=zs0++t∧t.Nodup∧∀ x∈t,x∈L.map Gr.id
theorem RcI.len {w0:World} {L:List Gr} {g:Gr} {zs0:List Int} {v:Value} {zs:List Int} {wr:World} (h:RcI w0 L g zs0 v zs wr) (h0:zs0.length≤10000) (hL:L.length≤64):zs.length≤10064:=by
 obtain⟨t,e,h1,h2⟩:=h.ext;have:=nodup_le h1 h2;rw[List.length_map]at this;rw[e,List.length_append];omega
theorem RcI.grow {w0:World} {L:List Gr} {g:Gr} {zs0:List Int} {v:Value} {zs:List Int} {wr w2:World} (h:RcI w0 L g zs0 v zs wr) (k:Below wr.heap.size wr w2):RcI w0 L g zs0 v zs w2:=⟨own_below h.own k,h.bel.trans (k.mono h.bel.size),h.snd,h.all,h.has,h.ext⟩
def ClsAt (L:List Gr) (zs:List Int) (x:Int):Prop:=∀ h∈L,h.id=x→∀ y∈rawL (h.l.map Bk.b3),y∈zs
theorem ClsAt.mono {L:List Gr} {zs ts:List Int} {x:Int} (h:ClsAt L zs x) (hm:∀ y∈zs,y∈ts):ClsAt L ts x:=fun g hg e y hy=>hm y (h g hg e y hy)
theorem RcI.done {w0:World} {L:List Gr} {g:Gr} {zs0:List Int} {v:Value} {zs:List Int} {wr:World} (h:RcI w0 L g zs0 v zs wr) (hc:∀ x∈zs,ClsAt L zs x) (x:Int):x∈zs↔Rc (L.map Gr.p) g.p x:=by
 refine⟨h.snd x,fun hr => ?_⟩;refine hr (fun z=>z∈zs) (fun y hy=>h.all _ hy) (fun y z q ih hm he hy => ?_);obtain⟨q,hq,rfl⟩:=List.mem_map.1 hm;exact hc _ ih q hq he _ hy
theorem RcI.app {w0:World} {L:List Gr} {g:Gr} {zs0:List Int} {v v':Value} {zs:List Int} {wr w2:World} (h:RcI w0 L g zs0 v zs wr) {x:Int} (hx:x ∉ zs) (hr:Rc (L.map Gr.p) g.p x) (hh:hasP L x=true) (ho:OwnI w0.heap.size w2 v' (zs++[x])) (hg:wr.grownBy w2 v.ownBlock):RcI w0 L g zs0 v' (zs++[x]) w2:=by
 refine⟨ho,h.bel.grown hg h.bel.size (fun j hj=>(h.own.lt j hj).1),?_,?_,?_,?_⟩
 ·intro y hy;rcases List.mem_append.1 hy with hy|hy
  ·exact h.snd y hy
  ·simp at hy;subst hy;exact hr
 ·intro y hy;exact List.mem_append_left _ (h.all y hy)
 ·intro y hy;rcases List.mem_append.1 hy with hy|hy
  ·exact h.has y hy
  ·simp at hy;subst hy;exact hh
 ·obtain⟨t,e,h1,h2⟩:=h.ext;refine⟨t++[x],by rw[e,List.append_assoc],?_,?_⟩
  ·rw[List.nodup_append];refine⟨h1,by simp,fun a ha b hb => ?_⟩;simp at hb;subst hb;intro e2;subst e2;exact hx (by rw[e];exact List.mem_append_right _ ha)
  ·intro y hy;rcases List.mem_append.1 hy with hy|hy
   ·exact h2 y hy
   ·simp at hy;subst hy;obtain⟨q,hq,e2⟩:=hasP_iff.1 hh;exact List.mem_map.2 ⟨q,hq,e2⟩
def LsR (wr:World) (a:Option Addr) (ls:List Int) (v:Value):Prop:=ls=[]∨∃ b,a=some ⟨b,0,none⟩∧b<wr.heap.size∧v.ownBlock≠some b∧∀ i (hi:i<ls.length),wr.cell? ⟨b,i,none⟩=some (.int .i64 ls[i])
theorem LsR.start {w2:World} {base b5 n5 c5:Nat} {a:Option Addr} {c:Nat} {ls:List Int} (ho:OwnI base w2 (.slice a ls.length c) ls) (hb:b5<base):LsR w2 a ls (.slice (some ⟨b5,0,none⟩) n5 c5):=by
 rcases own_cells ho with⟨e,_⟩|⟨b,cap,e,hlt,hcap,hc⟩
 ·exact .inl e
 ·cases e;refine .inr ⟨b,rfl,hlt,?_,hc⟩;have:=(ho.lt b rfl).1;intro e2;simp[Value.ownBlock]at e2;omega
theorem LsR.grow {wr w2:World} {a:Option Addr} {ls:List Int} {v:Value} (h:LsR wr a ls v) (k:Below wr.heap.size wr w2):LsR w2 a ls v:=by
 rcases h with h|⟨b,ha,hb,hv,hc⟩
 ·exact .inl h
 ·exact .inr ⟨b,ha,Nat.lt_of_lt_of_le hb k.size,hv,fun i hi=>(k.cell (p:=⟨b,i,none⟩) hb).trans (hc i hi)⟩
theorem LsR.app {wr w2:World} {a:Option Addr} {ls:List Int} {v v':Value} (h:LsR wr a ls v) (k:wr.grownBy w2 v.ownBlock) (hl:v'.ownBlock=v.ownBlock∨v'.ownBlock=some wr.heap.size):LsR w2 a ls v':=by
 rcases h with h|⟨b,ha,hb,hv,hc⟩
 ·exact .inl h
 ·refine .inr ⟨b,ha,Nat.lt_of_lt_of_le hb k.size,?_,fun i hi=>(World.cell?_of_block (a:=⟨b,i,none⟩) (k.block b hb (fun e=>hv e.symm))).trans (hc i hi)⟩;rcases hl with e|e
  ·rw[e];exact hv
  ·rw[e];intro e2;cases e2;omega
structure RiI (w0:World) (L:List Gr) (g:Gr) (zs0 zs:List Int) (a:Option Addr) (ls:List Int) (j:Nat) (v:Value) (ts:List Int) (wr:World):Prop where
 i:RcI w0 L g zs0 v ts wr
 p:∃ t,ts=zs++t
 m:∀ k (hk:k<ls.length),k<j→ls[k]∈ts
 r:LsR wr a ls v
theorem RiI.skip {w0:World} {L:List Gr} {g:Gr} {zs0 zs:List Int} {a:Option Addr} {ls:List Int} {j:Nat} {v:Value} {ts:List Int} {wr:World} (h:RiI w0 L g zs0 zs a ls j v ts wr) (hj:j<ls.length) (hm:ls[j]∈ts):RiI w0 L g zs0 zs a ls (j+1) v ts wr :=
 ⟨h.i,h.p,fun k hk hlt=>by
   by_cases e:k=j
   ·subst e;exact hm
   ·exact h.m k hk (by omega),h.r⟩
theorem RiI.app {w0:World} {L:List Gr} {g:Gr} {zs0 zs:List Int} {a:Option Addr} {ls:List Int} {j:Nat} {v v':Value} {ts:List Int} {wr w2 w3:World} (h:RiI w0 L g zs0 zs a ls j v ts wr) (hj:j<ls.length) (hm:ls[j] ∉ ts) (k:Below wr.heap.size wr w2) (hr:Rc (L.map Gr.p) g.p ls[j]) (hh:hasP L ls[j]=true)
 (ho:OwnI w0.heap.size w3 v' (ts++[ls[j]])) (hg:w2.grownBy w3 v.ownBlock) (hl:v'.ownBlock=v.ownBlock∨v'.ownBlock=some w2.heap.size):RiI w0 L g zs0 zs a ls (j+1) v' (ts++[ls[j]]) w3 :=
 ⟨(h.i.grow k).app hm hr hh ho hg,by
   obtain⟨t,e⟩:=h.p;exact⟨t++[ls[j]],by rw[e,List.append_assoc]⟩,fun q hq hlt=>by
   by_cases e:q=j
   ·subst e;simp
   ·exact List.mem_append_left _ (h.m q hq (by omega)),(h.r.grow k).app hg hl⟩
theorem RiI.next {w0:World} {L:List Gr} {g:Gr} {zs0 zs:List Int} {a:Option Addr} {ls:List Int} {v:Value} {ts:List Int} {wr:World} (h:RiI w0 L g zs0 zs a ls ls.length v ts wr) {q:Nat} (hq:q<zs.length) (hc:∀ i (hi:i<zs.length),i<q→ClsAt L zs zs[i]) {gi gk:Int} {ga:Option Addr} {gl:List Bk} {gc:Nat} (hgm:Gr.mk gi gk ga gl gc∈L) (hgi:gi=zs[q]) (hs:SrtG L) (hz:∀ x,x∈ls↔x∈rawL (gl.map Bk.b3)) :
 q+1≤ts.length∧RcI w0 L g zs0 v ts wr∧∀ i (hi:i<ts.length),i<q+1→ClsAt L ts ts[i]:=by
 obtain⟨t,e⟩:=h.p;have hm:=h.m;have hi0:=h.i;subst e;refine⟨by rw[List.length_append];omega,hi0,fun i hi hlt => ?_⟩;by_cases e:i=q
 ·subst e;rw[List.getElem_append_left hq];intro x hx hid y hy;have ex:x=⟨gi,gk,ga,gl,gc⟩:=srt_one hs hx hgm (by rw[hid,hgi]);subst ex;obtain⟨k,hk,ey⟩:=List.getElem_of_mem ((hz y).2 hy);rw[← ey];exact hm k hk hk
 ·rw[List.getElem_append_left (by omega)];exact(hc i (by omega) (by omega)).mono (fun y hy=>List.mem_append_left _ hy)
theorem own_at {base:Nat} {w:World} {v:Value} {zs:List Int} (h:OwnI base w v zs) {k:Nat} (hk:k<zs.length):∃ g cap,v=.slice (some ⟨g,0,none⟩) zs.length cap∧g<w.heap.size∧zs.length≤cap∧w.cell? ⟨g,k,none⟩=some (.int .i64 zs[k]):=by
 rcases own_cells h with⟨rfl,_⟩|⟨g,cap,e,hg,hc,hcs⟩
 ·cases hk
 ·exact⟨g,cap,e,hg,hc,hcs k hk⟩
theorem own_len_eq {base:Nat} {w:World} {v:Value} {zs:List Int} (h:OwnI base w v zs):∃ a c,v=.slice a zs.length c:=by
 rcases own_cells h with⟨rfl,a,c,e⟩|⟨g,cap,e,_⟩
 ·exact⟨a,c,e⟩
 ·exact⟨_,_,e⟩
end Gp
theorem r5_3 (v:Int):rightB (5,3,v)=(decide (4096≤v)&&decide (v≤8191)):=by simp[rightB,codeV,leastV,grV]
theorem r5_5 (v:Int) (h:0≤v):rightB (5,5,v)=decide (v≤4294967295):=by simp[rightB,codeV,leastV,grV,h]
theorem r5_6 (v:Int) (h:0≤v):rightB (5,6,v)=decide (v≤4294967295):=by simp[rightB,codeV,leastV,grV,h]
theorem r5_8 (v:Int) (h:0≤v):rightB (5,8,v)=decide (v≤65535):=by simp[rightB,codeV,leastV,grV,h]
theorem r5_9 (v:Int) (h:0≤v):rightB (5,9,v)=decide (v≤65535):=by simp[rightB,codeV,leastV,grV,h]
theorem r5_n (f v:Int) (h:codeV f=0):rightB (5,f,v)=false:=by simp[rightB,h]
theorem rright_five (f v:Int) (w:World) (hv:0≤v):Calls prog 103 #[tV (5,f,v)] w fun e w'=>e=.returned (.bool (rightB (5,f,v)))∧Below w.heap.size w w':=by
 rcases code_cases f with rfl|rfl|rfl|rfl|rfl|⟨b1,b2,b3,b4,b5,hc⟩
 ·rw[r5_3];cases d1:decide (4096≤v)
  ·go_enter func103,ntmps103;go_wp2;go_ret;exact⟨rfl,by go_grown⟩
  ·cases d2:decide (v≤8191) <;>
   ·go_enter func103,ntmps103;go_wp2;go_ret;exact⟨rfl,by go_grown⟩
 ·rw[r5_5 v hv];cases d2:decide (v≤4294967295) <;>
  ·go_enter func103,ntmps103;go_wp2;go_ret;exact⟨rfl,by go_grown⟩
 ·rw[r5_6 v hv];cases d2:decide (v≤4294967295) <;>
  ·go_enter func103,ntmps103;go_wp2;go_ret;exact⟨rfl,by go_grown⟩
 ·rw[r5_8 v hv];cases d2:decide (v≤65535) <;>
  ·go_enter func103,ntmps103;go_wp2;go_ret;exact⟨rfl,by go_grown⟩
 ·rw[r5_9 v hv];cases d2:decide (v≤65535) <;>
  ·go_enter func103,ntmps103;go_wp2;go_ret;exact⟨rfl,by go_grown⟩
 ·rw[r5_n f v hc];have d1:(f==3)=false:=by simp at b1 ⊢;omega
  have d2:(f==5)=false:=by simp at b2 ⊢;omega
  have d3:(f==6)=false:=by simp at b3 ⊢;omega
  have d4:(f==8)=false:=by simp at b4 ⊢;omega
  have d5:(f==9)=false:=by simp at b5 ⊢;omega
  clear b1 b2 b3 b4 b5 hc;go_enter func103,ntmps103;go_wp2;go_ret;exact⟨rfl,by go_grown⟩
theorem rright_any (a:A) (w:World) (hw:AW a):Calls prog 103 #[tV a] w fun e w'=>e=.returned (.bool (rightB a))∧Below w.heap.size w w':=by
 have hv:=hw.v0;obtain⟨k,f,v⟩:=a;clear hw;rcases kind_cases k with rfl|rfl|rfl|rfl|rfl|⟨b1,b2,b3,b4,b5⟩
 ·have hR:rightB (1,f,v)=(f==0&&(decide (1≤v)&&decide (v≤4294967295))):=by simp[rightB]
  rw[hR];clear hR hv;cases hf:(f==0)
  ·go_enter func103,ntmps103;go_wp2;go_ret;exact⟨rfl,by go_grown⟩
  ·cases d1:decide (1≤v)
   ·go_enter func103,ntmps103;go_wp2;go_ret;exact⟨rfl,by go_grown⟩
   ·cases d2:decide (v≤4294967295) <;>
    ·go_enter func103,ntmps103;go_wp2;go_ret;exact⟨rfl,by go_grown⟩
 ·have hR:rightB (2,f,v)=(f==0&&(decide (1≤v)&&decide (v≤4294967295))):=by simp[rightB]
  rw[hR];clear hR hv;cases hf:(f==0)
  ·go_enter func103,ntmps103;go_wp2;go_ret;exact⟨rfl,by go_grown⟩
  ·cases d1:decide (1≤v)
   ·go_enter func103,ntmps103;go_wp2;go_ret;exact⟨rfl,by go_grown⟩
   ·cases d2:decide (v≤4294967295) <;>
    ·go_enter func103,ntmps103;go_wp2;go_ret;exact⟨rfl,by go_grown⟩
 ·have hR:rightB (3,f,v)=(f==0&&v==0):=by simp[rightB]
  rw[hR];clear hR hv;cases hf:(f==0)<;>cases hv:(v==0) <;>
  ·go_enter func103,ntmps103;go_wp2;go_ret;exact⟨rfl,by go_grown⟩
 ·have hR:rightB (4,f,v)=(f==0&&v==0):=by simp[rightB]
  rw[hR];clear hR hv;cases hf:(f==0)<;>cases hv:(v==0) <;>
  ·go_enter func103,ntmps103;go_wp2;go_ret;exact⟨rfl,by go_grown⟩
 ·exact rright_five f v w hv
 ·have hR:rightB (k,f,v)=false:=by
   simp at b1 b2 b3 b4 b5;simp[rightB,b1,b2,b3,b4,b5]
  rw[hR];clear hR hv;go_enter func103,ntmps103;go_wp2;go_ret;exact⟨rfl,by go_grown⟩
namespace Gp
theorem in_any (n lo hi:Int) (w:World):Calls prog 102 #[.int .i64 n,.int .i64 lo,.int .i64 hi] w fun e w'=>e=.returned (.bool (inB n lo hi))∧w'=w:=by
 unfold inB;cases h:decide (lo≤n) <;>
 ·go_enter func102,ntmps102;go_wp2;go_ret;exact⟨rfl,rfl⟩
theorem rleads_any (g:Gr) (w:World) (hT:Bs w g.a g.l) (hn:Sm g.l) (hLO:LO g.l):Calls prog 104 #[gV g] w fun e w'=>∃ v,e=.returned v∧OwnI w.heap.size w' v (rawL (g.l.map Bk.b3))∧(rawL (g.l.map Bk.b3)).length≤10000∧Below w.heap.size w w':=by
 obtain⟨id,kd,ga,l,gc⟩:=g;simp only at hT hn hLO;have HN1:Hid (l.length≤100):=hn.n;have HN2:Hid (∀ b∈l,b.l.length≤100):=hn.a;have HNr:Hid (∀ q,(rawL ((l.take q).map Bk.b3)).length≤10000):=(show ∀ q,_ from rawL_take_le l hn)
 obtain⟨V,hV⟩:∃ V,w.alloc (.cells #[.int .i64 id,.int .i64 kd,.slice ga l.length gc] 81)=V:=⟨_,rfl⟩
 have GV:Below w.heap.size w V:=by rw[← hV];go_grown
 have zV:V.heap.size=w.heap.size+1:=by rw[← hV];simp
 have cV:Cg V w.heap.size 0 ⟨id,kd,ga,l,gc⟩:=by rw[← hV];exact Cg.new w ⟨id,kd,ga,l,gc⟩
 have TV:Bs V ga l:=hT.below GV;have HV:Hid (w.alloc (.cells #[.int .i64 id,.int .i64 kd,.slice ga l.length gc] 81)=V):=hV;have HT:Hid (∀ w',Below V.heap.size V w'→Bs w' ga l∧Below w.heap.size w w'∧V.heap.size≤w'.heap.size∧w.heap.size<w'.heap.size∧w'.cell? ⟨w.heap.size,2,none⟩=some (.slice ga l.length gc)):=(show ∀ w',_ from fun w' h=>⟨TV.below h,btr GV h (by omega),h.size,by have:=h.size;omega,(cV.below (by omega) h).2.2⟩)
 have HZ:Hid (w.heap.size≤V.heap.size):=(show _≤_ by omega)
 have HLO:Hid (LO l):=hLO;have c2:V.cell? ⟨w.heap.size,2,none⟩=some (.slice ga l.length gc):=cV.2.2;show Calls prog 104 #[.agg #[.int .i64 id,.int .i64 kd,.slice ga l.length gc]] w fun e w'=>∃ v,e=.returned v∧OwnI w.heap.size w' v (rawL (l.map Bk.b3))∧(rawL (l.map Bk.b3)).length≤10000∧Below w.heap.size w w';clear hT TV cV GV zV hV hn hLO;go_enter func104,ntmps104;go_wp2_with fail;rw[HV.out];clear c2 HV;go_loopw [3,4] (fun v3 v wr=>∃ q:Nat,q≤l.length∧v=.int .i64 q∧Hid (LdI V v3 (rawL ((l.take q).map Bk.b3)) wr)) (fun _ v _=>l.length-(intOf v).toNat);case atStart=>exact⟨0,Nat.zero_le _,rfl,(show LdI _ _ _ _ from⟨World.ownsRow_nil _ _ _ _,Below.refl _ _⟩)⟩
 case round =>
  obtain⟨q,hq,rfl,HI⟩:=hrel;have hn1:=HN1.out;obtain⟨hBs,hw,zr,zr2,c2⟩:=HT.out _ HI.out.bel;by_cases hlt:q<l.length
  ·obtain⟨b,o,rfl,hb,hc⟩:=hBs.at hlt;obtain⟨d0,d1,d2⟩:=hc q hlt;have hTs:=hBs.1 l[q] (List.getElem_mem hlt);have hn2:=HN2.out l[q] (List.getElem_mem hlt);have HLq:Hid (∀ a∈l[q].l,a.1=2→0≤a.2.2∧a.2.2<9223372036854775808):=HLO.out l[q] (List.getElem_mem hlt);have HRq:Hid (rawL ((l.take (q+1)).map Bk.b3)=rawL ((l.take q).map Bk.b3)++rawA l[q].l):=rawL_snoc l q hlt;have HNq:Hid ((rawL ((l.take q).map Bk.b3)).length≤10000):=HNr.out q;have HTs:Hid (∀ w',Below V.heap.size V w'→Ts w' l[q].a l[q].l):=(show ∀ w',_ from fun w' h=>(HT.out w' h).1.1 l[q] (List.getElem_mem hlt))
   have HCb:Hid (∀ w',Below V.heap.size V w'→b<w'.heap.size∧w'.cell? ⟨b,o+q*3+2,none⟩=some (.slice l[q].a l[q].l.length l[q].c)):=(show ∀ w',_ from fun w' k=>by
    obtain⟨b',o',e,hb',hc'⟩:=(HT.out w' k).1.at hlt;cases e;exact⟨hb',(hc' q hlt).2.2⟩)
   clear hc hBs hw hTs;generalize l[q]=X at *
   obtain⟨wa,we,xa,xl,xc⟩:=X;simp only at d0 d1 d2 hn2 HLq HRq HTs HCb;have HU:Hid (LdI V u3 (rawL ((l.take q).map Bk.b3)++rawA (xl.take 0)) wr):=(show LdI _ _ _ _ by
    rw[List.take_zero];simpa [rawA]using HI.out)
   have HCq:Hid (∀ w',Below V.heap.size V w'→w'.cell? ⟨w.heap.size,2,none⟩=some (.slice (some ⟨b,o,none⟩) l.length gc)∧w.heap.size<w'.heap.size∧b<w'.heap.size∧w'.cell? ⟨b,o+q*3+2,none⟩=some (.slice xa xl.length xc)):=(show ∀ w',_ from fun w' k=>⟨(HT.out w' k).2.2.2.2,(HT.out w' k).2.2.2.1,HCb.out w' k⟩)
   clear HI;go_wp2_with fail;clear d0 d1 d2 c2;go_loopw [3,5] (fun v3 v wr=>∃ j:Nat,j≤xl.length∧v=.int .i64 j∧Hid (LdI V v3 (rawL ((l.take q).map Bk.b3)++rawA (xl.take j)) wr)) (fun _ v _=>xl.length-(intOf v).toNat);case atStart=>exact⟨0,Nat.zero_le _,rfl,HU⟩
   case round =>
    obtain⟨j,hj,rfl,HJ⟩:=hrel;obtain⟨cc2,zz2,bb2,cb2⟩:=HCq.out _ HJ.out.bel;by_cases hjt:j<xl.length
    ·obtain⟨b2,o2,rfl,hb2,hc2⟩:=(HTs.out _ HJ.out.bel).at hjt;obtain⟨e0,e1,e2⟩:=hc2 j hjt;have hz:=HJ.out.bel.size;have HAq:Hid (rawL ((l.take q).map Bk.b3)++rawA (xl.take (j+1))=(rawL ((l.take q).map Bk.b3)++rawA (xl.take j))++leadA xl[j]):=(show _=_ by rw[rawA_snoc xl j hjt,List.append_assoc])
     have HLj:Hid (xl[j].1=2→0≤xl[j].2.2∧xl[j].2.2<9223372036854775808):=HLq.out xl[j] (List.getElem_mem hjt);have HNj:Hid ((rawL ((l.take q).map Bk.b3)++rawA (xl.take j)).length≤100000):=(show _≤_ by
      rw[List.length_append];have h1:=HNq.out;have h2:=rawA_le (xl.take j);rw[List.length_take]at h2;omega)
     clear hc2 HU;generalize xl[j]=Y at *
     obtain⟨yk,yf,yv⟩:=Y;simp only at e0 e1 e2 HLj;by_cases hk:yk=2
     ·have hkb:(yk==2)=true:=by simp[hk]
      have hv:=HLj.out hk;have HA1:Hid ((rawL ((l.take q).map Bk.b3)++rawA (xl.take (j+1)))=(rawL ((l.take q).map Bk.b3)++rawA (xl.take j))++[yv]):=(show _=_ by rw[HAq.out];simp[leadA,hk])
      subst hk;have HJ2:Hid (LdI V u3 (rawL ((l.take q).map Bk.b3)++rawA (xl.take j)) ((wr.alloc (.cells #[.int .i64 2,.int .i64 yf,.int .u64 yv] 95)).alloc (.cells #[.int .i64 yv] 3))):=(show LdI _ _ _ _ from HJ.out.grow (by go_grown))
      clear HJ;go_wp2_with (at_builtin;refine wpList_app1 rfl _ _ rfl V.heap.size u3 (rawL ((l.take q).map Bk.b3)++rawA (xl.take j)) rfl HJ2.out.own (wr.heap.size+1) yv rfl (by simp) HNj.out HJ2.out.bel.size ?_;intro v' w1 ho hg);have HJ3:Hid (LdI V v' (rawL ((l.take q).map Bk.b3)++rawA (xl.take (j+1))) w1):=(show LdI _ _ _ _ by rw[HA1.out];exact HJ2.out.app hg ho)
      clear HJ2 ho hg;go_wp2_with fail;go_roundw;case rel=>exact⟨j+1,by omega,by go_num,HJ3⟩
      case measure=>simp[intOf];omega
     ·have hkb:(yk==2)=false:=by simp[hk]
      have HA1:Hid ((rawL ((l.take q).map Bk.b3)++rawA (xl.take (j+1)))=(rawL ((l.take q).map Bk.b3)++rawA (xl.take j))):=(show _=_ by rw[HAq.out];simp[leadA,hk])
      have HJ1:Hid (LdI V u3 (rawL ((l.take q).map Bk.b3)++rawA (xl.take (j+1))) (wr.alloc (.cells #[.int .i64 yk,.int .i64 yf,.int .u64 yv] 95))):=(show LdI _ _ _ _ by rw[HA1.out];exact HJ.out.grow (by go_grown))
      clear hk;go_wp2_with fail;go_roundw;case rel=>exact⟨j+1,by omega,by go_num,HJ1⟩
      case measure=>simp[intOf];omega
    ·have e:j=xl.length:=by omega
     subst e;have HJ1:Hid (LdI V u3 (rawL ((l.take (q+1)).map Bk.b3)) wr):=(show LdI _ _ _ _ by rw[HRq.out];have:=HJ.out;rwa [List.take_length]at this)
     clear HJ HU;go_wp2_with fail;go_roundw;case rel=>exact⟨q+1,by omega,by go_num,HJ1⟩
     case measure=>simp[intOf];omega
  ·have e:q=l.length:=by omega
   subst e;rw[List.take_length]at HI;have HNq:Hid ((rawL (l.map Bk.b3)).length≤10000):=(show _≤_ by have:=HNr.out l.length;rwa [List.take_length]at this)
   clear HNr;clear hBs hw;have HF:Hid (OwnI w.heap.size wr u3 (rawL (l.map Bk.b3))∧(rawL (l.map Bk.b3)).length≤10000∧Below w.heap.size w wr):=(show _∧_∧_ from⟨own_mono HI.out.own HZ.out,HNq.out,(HT.out _ HI.out.bel).2.1⟩)
   clear HI;go_wp2_with fail;go_ret;exact⟨_,rfl,HF.out.1,HF.out.2.1,HF.out.2.2⟩
end Gp
end Go.Proofs.YtgnihbdcdefdgaaGreatDoor

import Derived.Test.YtgnihbdcdefdgaaGreatDoorX12
import Derived.Deep.RegionHeld
import Derived.Deep.RegionLaw
import Derived.Maps.AppendAt
import Derived.Test.YtgnihbdcdefdgaaGreatDoorX01
import Derived.Shelf.Strings.Repeat
import Derived.Test.YtgnihbdcdefdgaaGreatDoorProg
set_option maxHeartbeats 4000000
set_option linter.unusedSimpArgs false
set_option linter.unusedVariables false
open Go.ChangeShapes Go.WideShapes Go.ChangeAt Go.RowKit
open Go.Proofs.Tryz
namespace Go.Proofs.YtgnihbdcdefdgaaGreatDoor
theorem isAlive_any (t:Nat) (p:Tp) (v:Value) (O:List Ot) (nb:Nat) (live:List Bool) (n:Int) (w:World) (T:Tr w t p v O nb) (hl:p.ln=live.length) (L:Gp.Ls w p.la live) (hn:live.length≤1000) :
 Calls prog 122 #[.pointer (some ⟨t,0,none⟩),.int .i64 n] w fun e w'=>e=.returned (.bool (portB live n))∧w'=w:=by
 have c3:=T.c3;rw[hl]at c3;have HP:Hid (portB live n=(decide (1≤n)&&(decide (n<(live.length:Int))&&live.getD n.toNat false))):=(show _=_ from rfl)
 clear T;by_cases h1:1≤n
 ·by_cases h2:n<(live.length:Int)
  ·obtain⟨k,rfl⟩:=Int.eq_ofNat_of_zero_le (show 0≤n by omega);have hk:k<live.length:=by omega
   rcases L with L|⟨g,o,ha,hg,hc⟩
   ·rw[L]at hk;cases hk
   have ck:=hc k hk;rw[ha]at c3;have HR:Hid (portB live k=live[k]):=(show _=_ by rw[HP.out];simp[h1,h2,hk])
   clear HP hc;generalize live[k]=B at *
   go_enter func122,ntmps122;go_wp2;go_ret;exact⟨by rw[HR.out];rfl,rfl⟩
  ·have HR:Hid (portB live n=false):=(show _=_ by rw[HP.out];simp[h2])
   clear HP;go_enter func122,ntmps122;go_wp2;go_ret;exact⟨by rw[HR.out];rfl,rfl⟩
 ·have HR:Hid (portB live n=false):=(show _=_ by rw[HP.out];simp[h1])
  clear HP;go_enter func122,ntmps122;go_wp2;go_ret;exact⟨by rw[HR.out];rfl,rfl⟩
theorem step_append_own {P:Program} {ops:Array Oper} {o:Oper} {a:Go.Act} {w:World} {K:Go.Act→World→Prop} {Q:Exit→Go.Act→World→Prop} {E:Prop} (hg:o.guard=none) (s x:Operand) (t:TypeId)
 (ho:o.op=.call { callee:=.builtin .append,args:=#[s,x],argTypes:=#[t,t] })
 (base:Nat) (e:TypeId) (i:TypeInfo) (z:Value) (size bytes:Nat) (ht:P.underlying t=some (.slice e)) (hi:P.info? e=some i) (hz:i.zero=some z)
 (hsize:i.size=size) (hby:i.bytes=bytes) (hzs:z.cells.size=size) (hsz:0<size)
 (v:Value) (n:Nat) (xs:List Value) (hs:a.eval s=v) (hown:w.ownsRow base e size v n xs)
 (ad:Addr) (m c:Nat) (news:List Value) (hx:a.eval x=.slice (some ad) m c) (hl:news.length=m*size) (hnews:∀ j u,news[j]? = some u→w.cell? (ad.add j)=some u) (h1:∀ u∈news,u.oneCell'=true)
 (h63:n+m≤maxLen) (hbytes:(n+m)*bytes≤140737488355328) (hbase:base≤w.heap.size)
 (h:∀ v' w',w'.ownsRow base e size v' (n+m) (xs++news)→w.grownBy w' v.ownBlock→(v'.ownBlock=v.ownBlock∨v'.ownBlock=some w.heap.size)→K (a.put o.dst v') w') :
 if Region.wanted o (yielded ops a.tmps)=true then Oper.wp P o a w K Q else E:=by
 have hw:Region.wanted o (yielded ops a.tmps)=true:=by simp[Region.wanted,hg]
 rw[if_pos hw];obtain⟨v',w',hr,h2,h3,_,h5⟩:=run_append_own_at (P:=P) w base t o.type e i z size bytes ht hi hz hsize hby hzs hsz v n xs hown ad m c news hl hnews h1 h63 hbytes hbase;unfold Oper.wp execOp;simp only[ho,resolve,invoke,builtin,Sem.run_bind,Sem.run_pure,Result.andThen_ok,List.map_toArray,List.map_cons,List.map_nil,hs,hx,hr];exact h v' w' h2 h3 h5
theorem own_sl {w:World} {base:Nat} {e:TypeId} {size:Nat} {v:Value} {n:Nat} {xs:List Value} (h:w.ownsRow base e size v n xs):∃ a cap,v=.slice a n cap:=by
 rcases h.2 with⟨rfl,h'⟩|⟨g,cap,cur,rfl,_⟩
 ·exact⟨none,0,by rw[h']⟩
 ·exact⟨_,cap,rfl⟩
theorem grow_kpt {V X w8:World} {v:Value} (hX:Below V.heap.size V X) (g:X.grownBy w8 v.ownBlock):Kpt (fun b=>v.ownBlock=some b) V w8 :=
 ⟨g.os.trans hX.os,g.tape.trans hX.tape,g.output.trans hX.output,Nat.le_trans hX.size g.size,fun b hb hn=>(g.block b (Nat.lt_of_lt_of_le hb hX.size) (fun e=>hn e.symm)).trans (hX.block b hb)⟩
theorem infoOt:(prog.info? 70).map (fun i=>(i.zero,i.size,i.bytes))=some (some (.agg #[.int .i64 0,.int .u64 0,.int .u64 0,.int .i64 0,.int .i64 0,.int .u32 0,.int .u32 0,.int .i64 0,.int .i64 0,.int .i64 0,.int .i64 0,.string ⟨#[]⟩]),12,96):=by kernel_rfl
theorem otC_one (x:Ot):∀ u∈otC x,u.oneCell'=true:=by
 intro u hu;simp at hu;rcases hu with h|h|h|h|h|h|h|h|h|h|h|h<;>subst h<;>rfl
theorem cells_newL (w:World) (cs:List Value) (t:TypeId):∀ j u,cs[j]? = some u→(w.alloc (.cells cs.toArray t)).cell? ((⟨w.heap.size,0,none⟩:Addr).add j)=some u:=by
 intro j u hj;have e:(⟨w.heap.size,0,none⟩:Addr).add j=⟨w.heap.size,j,none⟩:=by by_cases h:j=0<;>simp[Addr.add,h]
 rw[e];simpa using hj
theorem put_end {w V w8:World} {t:Nat} {p:Tp} {v v':Value} {O O':List Ot} {nb:Nat} (T:Tr V t p v O nb) (G:Below w.heap.size w V) (K:Kpt (fun b=>v.ownBlock=some b) V w8)
 (F:v'.ownBlock=v.ownBlock∨∀ g,v'.ownBlock=some g→V.heap.size≤g) (R:OwnO (t+1) w8 v' O') (hn:O'.length≤64) :
 Tr (w8.setCell ⟨t,5,none⟩ v') t p v' O' nb∧Eff t v w v' (w8.setCell ⟨t,5,none⟩ v'):=by
 have hb8:w8.heap[t]? = V.heap[t]?:=K.block t T.lt (fun e=>by have:=(T.own e).1;omega);have e:∀ o,w8.cell? ⟨t,o,none⟩=V.cell? ⟨t,o,none⟩:=fun o=>World.cell?_of_block (w:=V) hb8;have o5:∀ o,o≠5→(w8.setCell ⟨t,5,none⟩ v').cell? ⟨t,o,none⟩=V.cell? ⟨t,o,none⟩:=fun o ho=>(World.cell?_setCell_other _ _ _ _ (by simp[ho])).trans (e o);have hz:(w8.setCell ⟨t,5,none⟩ v').heap.size=w8.heap.size:=by simp[World.setCell]
 have fb:∀ b,b≠t→(w8.setCell ⟨t,5,none⟩ v').heap[b]? = w8.heap[b]?:=fun b hb=>Below.heap_setCell _ _ _ _ hb;refine⟨⟨(o5 _ (by decide)).trans T.c0,(o5 _ (by decide)).trans T.c1,(o5 _ (by decide)).trans T.c2,(o5 _ (by decide)).trans T.c3,(o5 _ (by decide)).trans T.c4,World.cell?_setCell_same _ _ _ ((e 5).trans T.c5),(o5 _ (by decide)).trans T.c6,fun o => ?_,by rw[hz];exact Nat.lt_of_lt_of_le T.lt K.size,own_block R (fun b hb=>fb b (by have:=(own_at R hb).1;omega)),hn,T.nn⟩,⟨⟨?_,?_,?_,?_,?_⟩,?_⟩⟩
 ·rw[World.frozen?_setCell];exact(World.frozen?_of_block (w:=V) hb8).trans (T.fz o)
 ·exact K.os.trans G.os
 ·exact K.tape.trans G.tape
 ·exact K.output.trans G.output
 ·rw[hz];exact Nat.le_trans G.size K.size
 ·intro b hb hs;rw[fb b (fun e=>hs (.inl e)),K.block b (Nat.lt_of_lt_of_le hb G.size) (fun e=>hs (.inr e))];exact G.block b hb
 ·exact F.imp id (fun h g hg=>Nat.le_trans G.size (h g hg))
theorem leave_put (t:Nat) (p:Tp) (a:Option Addr) (cap:Nat) (O:List Ot) (nb:Nat) (live:List Bool) (s:Mt.Sn) (n q0 q:Int) (w:World) (T:Tr w t p (.slice a O.length cap) O nb) (hl:p.ln=live.length) (L:Gp.Ls w p.la live) (hn:live.length≤1000)
 (hw:(convert 44 3 (.int .u64 n)).run prog=fun w=>.ok (.int .i64 q0) w) (hw2:((n==4294967288)=true∧q=s.inp)∨((n==4294967288)=false∧q=q0∧(q==s.inp)=false)) (hb:portB live q=true) (ho:O.length<64) :
 Calls prog 82 #[.pointer (some ⟨t,0,none⟩),Mt.snV s,.int .u64 n] w fun e w'=>e=.returned (.tuple #[])∧∃ v',Tr w' t p v' (O++[(q,s.pk)]) nb∧Eff t (.slice a O.length cap) w v' w':=by
 obtain⟨V,hV⟩:∃ V,Mt.bx w s=V:=⟨_,rfl⟩
 have g0:Below w.heap.size w V:=by rw[← hV];go_grown
 have T0:=T.below g0;have HA:Hid (Calls prog 122 #[.pointer (some ⟨t,0,none⟩),.int .i64 q] V fun e w'=>e=.returned (.bool true)∧w'=V):=(show Calls _ _ _ _ _ by rw[← hb];exact isAlive_any t p _ O nb live q _ T0 hl (L.below g0) hn)
 have c5:=T0.c5;have fz:=T0.fz 5;have B:=Mt.Bx.new w s;have HzV:Hid (V.heap.size=w.heap.size+1):=(show _=_ by rw[← hV];simp)
 rw[hV]at B;obtain⟨b0,b1,b2,b3,b4,b5,b6,b7,b8,b9,b10,b11,b12⟩:=B;have HT:Hid (Tr V t p (.slice a O.length cap) O nb):=T0;have HG:Hid (Below w.heap.size w V):=g0;have HV:Hid (w.alloc (.cells (Mt.snC s) 49)=V):=hV;have HTt:Hid (Tr w t p (.slice a O.length cap) O nb):=T;have htl:=T.lt;have ho':(O.length:Int)<64:=by omega
 have htV:t<V.heap.size:=by have:=HzV.out;omega
 have hwV:w.heap.size<V.heap.size:=by have:=HzV.out;omega
 obtain⟨i0,hi0,hz0,hz1,hz2⟩:=info_parts infoOt;clear T g0 T0 hV hb L;rcases hw2 with⟨hq,hqq⟩|⟨hq,hqq,hi⟩
 ·subst hqq;go_enter func82,ntmps82;go_wp2_with fail;rw[HV.out];refine HA.out.mono ?_;rintro e w1 ⟨rfl,z⟩;obtain rfl:V=w1:=z.symm;go_wp2_with fail
  go_region_law (
   refine step_append_own rfl (.tmp 34) (.tmp 39) 53 rfl (t+1) 70 i0 (.agg #[.int .i64 0,.int .u64 0,.int .u64 0,.int .i64 0,.int .i64 0,.int .u32 0,.int .u32 0,.int .i64 0,.int .i64 0,.int .i64 0,.int .i64 0,.string ⟨#[]⟩]) 12 96 underlying53 hi0 hz0 hz1 hz2 rfl (by decide) (.slice a O.length cap) O.length (flatO O) rfl (HT.out.row.alloc _) ⟨V.heap.size,0,none⟩ 1 1 (otC (s.inp,s.pk)) rfl rfl (cells_newL _ _ _) (otC_one _) (by unfold maxLen;omega) (by omega) (by have:=HzV.out;simp;omega) ?_;intro v' w8 hown' hgrow hfr;obtain⟨a8,cap8,rfl⟩:=own_sl hown';have HK:Hid (Kpt (fun b=>(Value.slice a O.length cap).ownBlock=some b) V w8):=grow_kpt (by go_grown) hgrow;have HF:Hid ((Value.slice a8 (O.length+1) cap8).ownBlock=(Value.slice a O.length cap).ownBlock∨∀ g,(Value.slice a8 (O.length+1) cap8).ownBlock=some g→V.heap.size≤g):=hfr.imp id (fun e g hg=>by rw[hg]at e;cases e;simp);have HO:Hid (OwnO (t+1) w8 (.slice a8 (O.length+1) cap8) (O++[(s.inp,s.pk)])):=(show World.ownsRow _ _ _ _ _ _ _ by rw[flatO_append,List.length_append];exact hown')
   clear hown';clear hgrow hfr;have hb8:w8.heap[t]? = V.heap[t]?:=HK.out.block t htV (fun e=>by have:=(HT.out.own e).1;omega);have d5:w8.cell? ⟨t,5,none⟩=some (.slice a O.length cap):=(World.cell?_of_block (w:=V) hb8).trans c5;have f5:w8.frozen? ⟨t,5,none⟩=false:=(World.frozen?_of_block (w:=V) hb8).trans fz;clear hb8)
  all_goals
   go_wp2;go_end0;exact⟨rfl,_,put_end HT.out HG.out HK.out HF.out HO.out (by simp;omega)⟩
 ·subst hqq;go_enter func82,ntmps82;go_wp2_with fail;rw[HV.out];refine HA.out.mono ?_;rintro e w1 ⟨rfl,z⟩;obtain rfl:V=w1:=z.symm;go_wp2_with fail
  go_region_law (
   refine step_append_own rfl (.tmp 34) (.tmp 39) 53 rfl (t+1) 70 i0 (.agg #[.int .i64 0,.int .u64 0,.int .u64 0,.int .i64 0,.int .i64 0,.int .u32 0,.int .u32 0,.int .i64 0,.int .i64 0,.int .i64 0,.int .i64 0,.string ⟨#[]⟩]) 12 96 underlying53 hi0 hz0 hz1 hz2 rfl (by decide) (.slice a O.length cap) O.length (flatO O) rfl (HT.out.row.alloc _) ⟨V.heap.size,0,none⟩ 1 1 (otC (q,s.pk)) rfl rfl (cells_newL _ _ _) (otC_one _) (by unfold maxLen;omega) (by omega) (by have:=HzV.out;simp;omega) ?_;intro v' w8 hown' hgrow hfr;obtain⟨a8,cap8,rfl⟩:=own_sl hown';have HK:Hid (Kpt (fun b=>(Value.slice a O.length cap).ownBlock=some b) V w8):=grow_kpt (by go_grown) hgrow;have HF:Hid ((Value.slice a8 (O.length+1) cap8).ownBlock=(Value.slice a O.length cap).ownBlock∨∀ g,(Value.slice a8 (O.length+1) cap8).ownBlock=some g→V.heap.size≤g):=hfr.imp id (fun e g hg=>by rw[hg]at e;cases e;simp);have HO:Hid (OwnO (t+1) w8 (.slice a8 (O.length+1) cap8) (O++[(q,s.pk)])):=(show World.ownsRow _ _ _ _ _ _ _ by rw[flatO_append,List.length_append];exact hown')
   clear hown';clear hgrow hfr;have hb8:w8.heap[t]? = V.heap[t]?:=HK.out.block t htV (fun e=>by have:=(HT.out.own e).1;omega);have d5:w8.cell? ⟨t,5,none⟩=some (.slice a O.length cap):=(World.cell?_of_block (w:=V) hb8).trans c5;have f5:w8.frozen? ⟨t,5,none⟩=false:=(World.frozen?_of_block (w:=V) hb8).trans fz;clear hb8)
  all_goals
   go_wp2;go_end0;exact⟨rfl,_,put_end HT.out HG.out HK.out HF.out HO.out (by simp;omega)⟩
theorem leave_no (t:Nat) (p:Tp) (a:Option Addr) (cap:Nat) (O:List Ot) (nb:Nat) (live:List Bool) (s:Mt.Sn) (n q0:Int) (w:World) (T:Tr w t p (.slice a O.length cap) O nb) (hl:p.ln=live.length) (L:Gp.Ls w p.la live) (hn:live.length≤1000)
 (hw:(convert 44 3 (.int .u64 n)).run prog=fun w=>.ok (.int .i64 q0) w)
 (h:((n==4294967288)=true∧(portB live s.inp=false∨64≤O.length))∨((n==4294967288)=false∧(q0==s.inp)=true)∨((n==4294967288)=false∧(q0==s.inp)=false∧(portB live q0=false∨64≤O.length))) :
 Calls prog 82 #[.pointer (some ⟨t,0,none⟩),Mt.snV s,.int .u64 n] w fun e w'=>e=.returned (.tuple #[])∧Below w.heap.size w w':=by
 obtain⟨V,hV⟩:∃ V,Mt.bx w s=V:=⟨_,rfl⟩
 have g0:Below w.heap.size w V:=by rw[← hV];go_grown
 have T0:=T.below g0;have HA:Hid (∀ q,Calls prog 122 #[.pointer (some ⟨t,0,none⟩),.int .i64 q] V fun e w'=>e=.returned (.bool (portB live q))∧w'=V):=(show ∀ q,_ from fun q=>isAlive_any t p _ O nb live q _ T0 hl (L.below g0) hn)
 have c5:=T0.c5;have HV:Hid (w.alloc (.cells (Mt.snC s) 49)=V):=hV;have HG:Hid (Below w.heap.size w V):=g0;clear T g0 T0 hV L;have ho:O.length≤64∨64<O.length:=by omega
 rcases h with⟨hq,h⟩|⟨hq,hi⟩|⟨hq,hi,h⟩
 ·have HA1:=HA.out s.inp;rcases h with h|h
  ·rw[h]at HA1;have HB:Hid _:=HA1;clear HA1 h;go_enter func82,ntmps82;go_wp2_with fail;rw[HV.out];refine Calls.mono HB.out ?_;rintro e w1 ⟨rfl,z⟩;obtain rfl:V=w1:=z.symm;go_wp2_with fail;go_end0;exact⟨rfl,HG.out⟩
  ·have h' : ¬ (O.length:Int)<64:=by omega
   cases hB:portB live s.inp
   all_goals
    rw[hB]at HA1;have HB:Hid _:=HA1;clear HA1 hB;go_enter func82,ntmps82;go_wp2_with fail;rw[HV.out];refine Calls.mono HB.out ?_;rintro e w1 ⟨rfl,z⟩;obtain rfl:V=w1:=z.symm;go_wp2_with fail;go_end0;exact⟨rfl,HG.out⟩
 ·go_enter func82,ntmps82;go_wp2_with fail;(try simp only[Exit.inBlock,Exit.then])
  refine bodyPost_ret (results_none rfl _ _ _) rfl ?_;exact⟨rfl,by go_grown⟩
 ·have HA1:=HA.out q0;rcases h with h|h
  ·rw[h]at HA1;have HB:Hid _:=HA1;clear HA1 h;go_enter func82,ntmps82;go_wp2_with fail;rw[HV.out];refine Calls.mono HB.out ?_;rintro e w1 ⟨rfl,z⟩;obtain rfl:V=w1:=z.symm;go_wp2_with fail;go_end0;exact⟨rfl,HG.out⟩
  ·have h' : ¬ (O.length:Int)<64:=by omega
   cases hB:portB live q0
   all_goals
    rw[hB]at HA1;have HB:Hid _:=HA1;clear HA1 hB;go_enter func82,ntmps82;go_wp2_with fail;rw[HV.out];refine Calls.mono HB.out ?_;rintro e w1 ⟨rfl,z⟩;obtain rfl:V=w1:=z.symm;go_wp2_with fail;go_end0;exact⟨rfl,HG.out⟩
theorem conv_run (n:Int):(convert 44 3 (.int .u64 n)).run prog=fun w=>.ok (.int .i64 (IntKind.i64.wrap n)) w:=by funext w;simp[go_sem]
theorem leave_any (t:Nat) (p:Tp) (v:Value) (O:List Ot) (nb:Nat) (live:List Bool) (s:Mt.Sn) (n:Int) (w:World) (T:Tr w t p v O nb) (hl:p.ln=live.length) (L:Gp.Ls w p.la live) (hn:live.length≤1000) :
 Calls prog 82 #[.pointer (some ⟨t,0,none⟩),Mt.snV s,.int .u64 n] w fun e w'=>e=.returned (.tuple #[])∧∃ v',Tr w' t p v' (leaveV live s n O) nb∧Eff t v w v' w':=by
 obtain⟨a,cap,rfl⟩:=T.form;have no:∀ {P:Prop},P→(leaveV live s n O=O)→(Calls prog 82 #[.pointer (some ⟨t,0,none⟩),Mt.snV s,.int .u64 n] w fun e w'=>e=.returned (.tuple #[])∧Below w.heap.size w w')→Calls prog 82 #[.pointer (some ⟨t,0,none⟩),Mt.snV s,.int .u64 n] w fun e w'=>e=.returned (.tuple #[])∧∃ v',Tr w' t p v' (leaveV live s n O) nb∧Eff t (.slice a O.length cap) w v' w':=by
  intro P _ he hc;rw[he];exact hc.mono fun e w' ⟨h1,h2⟩=>⟨h1,_,T.below h2,Eff.of_below h2⟩
 by_cases hq:n=4294967288
 ·have hb:(n==4294967288)=true:=by simp[hq]
  have hp:portV s n=s.inp:=if_pos hq;by_cases hA:portB live s.inp=true∧O.length<64
  ·have he:leaveV live s n O=O++[(s.inp,s.pk)]:=by unfold leaveV;rw[if_neg (fun h=>h.1 hq),hp,if_pos hA]
   rw[he];exact leave_put t p a cap O nb live s n _ s.inp w T hl L hn (conv_run n) (.inl ⟨hb,rfl⟩) hA.1 hA.2
  ·refine no hq (by unfold leaveV;rw[if_neg (fun h=>h.1 hq),hp,if_neg hA]) (leave_no t p a cap O nb live s n _ w T hl L hn (conv_run n) (.inl ⟨hb,?_⟩));by_cases h1:portB live s.inp=true
   ·exact .inr (Nat.le_of_not_lt fun h=>hA ⟨h1,h⟩)
   ·exact .inl (by simpa using h1)
 ·have hb:(n==4294967288)=false:=by simp[hq]
  have hp:portV s n=IntKind.i64.wrap n:=if_neg hq;by_cases hi:IntKind.i64.wrap n=s.inp
  ·exact no hq (by unfold leaveV;rw[if_pos ⟨hq,hi⟩]) (leave_no t p a cap O nb live s n _ w T hl L hn (conv_run n) (.inr (.inl ⟨hb,by simpa using hi⟩)))
  ·have hib:(IntKind.i64.wrap n==s.inp)=false:=by simpa using hi
   by_cases hA:portB live (IntKind.i64.wrap n)=true∧O.length<64
   ·have he:leaveV live s n O=O++[(IntKind.i64.wrap n,s.pk)]:=by unfold leaveV;rw[if_neg (fun h=>hi h.2),hp,if_pos hA]
    rw[he];exact leave_put t p a cap O nb live s n _ _ w T hl L hn (conv_run n) (.inr ⟨hb,rfl,hib⟩) hA.1 hA.2
   ·refine no hq (by unfold leaveV;rw[if_neg (fun h=>hi h.2),hp,if_neg hA]) (leave_no t p a cap O nb live s n _ w T hl L hn (conv_run n) (.inr (.inr ⟨hb,hib,?_⟩)));by_cases h1:portB live (IntKind.i64.wrap n)=true
    ·exact .inr (Nat.le_of_not_lt fun h=>hA ⟨h1,h⟩)
    ·exact .inl (by simpa using h1)
theorem infoB:(prog.info? 5).map (fun i=>(i.zero,i.size,i.bytes))=some (some (.int .u8 0),1,1):=by kernel_rfl
theorem mkAny (k:Nat) (w:World) (hk:k≤8):(Instr.makeSlice 254 (.int .i64 k) (.int .i64 k)).run prog w=.ok (.slice (some ⟨w.heap.size,0,none⟩) k k) (w.alloc (.cells (List.replicate k (.int .u8 0)).toArray 5)):=by
 obtain⟨i0,hi,hz0,hz1,hz2⟩:=info_parts infoB;rw[run_make w 254 5 i0 _ underlying254 hi hz0 .i64 .i64 k k (by omega) (by omega) (by rw[hz2];omega) (by omega),hz1];have e:madeCells (Value.int .u8 0).cells (Int.toNat (k:Int)*1)=(List.replicate k (Value.int .u8 0)).toArray:=by
  apply Array.ext<;>simp[madeCells,Value.cells,Nat.mod_one]
 rw[e,Int.toNat_natCast]
theorem cvAny (k:Nat) (xs:List Int) (h:xs.length=k) (w:World) :
 (convert 254 9 (.slice (some ⟨w.heap.size,0,none⟩) k k)).run prog (w.alloc (.cells (xs.map (Value.int .u8)).toArray 5))=.ok (.string (strOfNums xs)) (w.alloc (.cells (xs.map (Value.int .u8)).toArray 5)):=by
 refine run_convert_bytes_arg _ 254 5 underlying254 underlying5 w.heap.size 0 k k xs h (fun i hi => ?_) 9 underlying9;have hi':i<xs.length:=by omega
 simp[List.getElem?_eq_getElem hi']
theorem mk1 (w:World):(Instr.makeSlice 254 (.int .i64 1) (.int .i64 1)).run prog w=.ok (.slice (some ⟨w.heap.size,0,none⟩) 1 1) (w.alloc (.cells #[.int .u8 0] 5)):=mkAny 1 w (by omega)
theorem cv1 (a:Int) (w:World):(convert 254 9 (.slice (some ⟨w.heap.size,0,none⟩) 1 1)).run prog (w.alloc (.cells #[.int .u8 a] 5))=.ok (.string (strOfNums [a])) (w.alloc (.cells #[.int .u8 a] 5)):=cvAny 1 [a] rfl w
theorem p1 (n:Int) (h0:0≤n) (h1:n<256):[n]=pieces n 1:=by simp[pieces];omega
theorem put_1 (n:Int) (w:World) (h0:0≤n) (h1:n<256) :
 Calls prog 227 #[.int .u64 n,.int .i64 1] w fun e w'=>e=.returned (.tuple #[.string (strOfNums (pieces n 1)),.int .i64 0])∧Below w.heap.size w w':=by
 have hm:=mk1;have hc:=cv1;have hn:(n/256 != 0)=false:=by rw[Int.ediv_eq_zero_of_lt h0 h1];rfl
 go_enter func227,ntmps227;go_wp2;go_rounds 2;go_ret2
 rw[← p1 n h0 h1];exact⟨rfl,by go_grown⟩
theorem mput1 (n:Int) (w:World) (h0:0≤n) (h1:n<256):Calls prog 217 #[.int .u64 n,.int .i64 1] w fun e w'=>e=.returned (.string (pb n 1))∧Below w.heap.size w w':=by
 go_enter func217,ntmps217;go_wp2_with fail;refine(put_1 n _ h0 h1).mono ?_;rintro x w1 ⟨rfl,g⟩;go_wp2_with fail;go_ret;exact⟨rfl,g⟩
theorem mk2 (w:World):(Instr.makeSlice 254 (.int .i64 2) (.int .i64 2)).run prog w=.ok (.slice (some ⟨w.heap.size,0,none⟩) 2 2) (w.alloc (.cells #[.int .u8 0,.int .u8 0] 5)):=mkAny 2 w (by omega)
theorem cv2 (a b:Int) (w:World):(convert 254 9 (.slice (some ⟨w.heap.size,0,none⟩) 2 2)).run prog (w.alloc (.cells #[.int .u8 a,.int .u8 b] 5))=.ok (.string (strOfNums [a,b])) (w.alloc (.cells #[.int .u8 a,.int .u8 b] 5)):=cvAny 2 [a,b] rfl w
theorem p2 (n:Int) (h0:0≤n) (h1:n<65536):[n/256,n % 256]=pieces n 2:=by simp[pieces];omega
theorem put_2 (n:Int) (w:World) (h0:0≤n) (h1:n<65536) :
 Calls prog 227 #[.int .u64 n,.int .i64 2] w fun e w'=>e=.returned (.tuple #[.string (strOfNums (pieces n 2)),.int .i64 0])∧Below w.heap.size w w':=by
 have hm:=mk2;have hc:=cv2;have hn:(n/65536 != 0)=false:=by rw[Int.ediv_eq_zero_of_lt h0 h1];rfl
 go_enter func227,ntmps227;go_wp2;go_rounds 3;go_ret2
 rw[← p2 n h0 h1];exact⟨rfl,by go_grown⟩
theorem mput2 (n:Int) (w:World) (h0:0≤n) (h1:n<65536):Calls prog 217 #[.int .u64 n,.int .i64 2] w fun e w'=>e=.returned (.string (pb n 2))∧Below w.heap.size w w':=by
 go_enter func217,ntmps217;go_wp2_with fail;refine(put_2 n _ h0 h1).mono ?_;rintro x w1 ⟨rfl,g⟩;go_wp2_with fail;go_ret;exact⟨rfl,g⟩
theorem mk4 (w:World):(Instr.makeSlice 254 (.int .i64 4) (.int .i64 4)).run prog w=.ok (.slice (some ⟨w.heap.size,0,none⟩) 4 4) (w.alloc (.cells #[.int .u8 0,.int .u8 0,.int .u8 0,.int .u8 0] 5)):=mkAny 4 w (by omega)
theorem cv4 (a b c d:Int) (w:World):(convert 254 9 (.slice (some ⟨w.heap.size,0,none⟩) 4 4)).run prog (w.alloc (.cells #[.int .u8 a,.int .u8 b,.int .u8 c,.int .u8 d] 5))=.ok (.string (strOfNums [a,b,c,d])) (w.alloc (.cells #[.int .u8 a,.int .u8 b,.int .u8 c,.int .u8 d] 5)):=cvAny 4 [a,b,c,d] rfl w
theorem p4 (n:Int) (h0:0≤n) (h1:n<4294967296):[n/16777216,n/65536 % 256,n/256 % 256,n % 256]=pieces n 4:=by simp[pieces];omega
theorem put_4 (n:Int) (w:World) (h0:0≤n) (h1:n<4294967296) :
 Calls prog 227 #[.int .u64 n,.int .i64 4] w fun e w'=>e=.returned (.tuple #[.string (strOfNums (pieces n 4)),.int .i64 0])∧Below w.heap.size w w':=by
 have hm:=mk4;have hc:=cv4;have hn:(n/4294967296 != 0)=false:=by rw[Int.ediv_eq_zero_of_lt h0 h1];rfl
 go_enter func227,ntmps227;go_wp2;go_rounds 5;go_ret2
 rw[← p4 n h0 h1];exact⟨rfl,by go_grown⟩
theorem mput4 (n:Int) (w:World) (h0:0≤n) (h1:n<4294967296):Calls prog 217 #[.int .u64 n,.int .i64 4] w fun e w'=>e=.returned (.string (pb n 4))∧Below w.heap.size w w':=by
 go_enter func217,ntmps217;go_wp2_with fail;refine(put_4 n _ h0 h1).mono ?_;rintro x w1 ⟨rfl,g⟩;go_wp2_with fail;go_ret;exact⟨rfl,g⟩
theorem mk8 (w:World):(Instr.makeSlice 254 (.int .i64 8) (.int .i64 8)).run prog w=.ok (.slice (some ⟨w.heap.size,0,none⟩) 8 8) (w.alloc (.cells #[.int .u8 0,.int .u8 0,.int .u8 0,.int .u8 0,.int .u8 0,.int .u8 0,.int .u8 0,.int .u8 0] 5)):=mkAny 8 w (by omega)
theorem cv8 (a b c d e f g h:Int) (w:World):(convert 254 9 (.slice (some ⟨w.heap.size,0,none⟩) 8 8)).run prog (w.alloc (.cells #[.int .u8 a,.int .u8 b,.int .u8 c,.int .u8 d,.int .u8 e,.int .u8 f,.int .u8 g,.int .u8 h] 5))=.ok (.string (strOfNums [a,b,c,d,e,f,g,h])) (w.alloc (.cells #[.int .u8 a,.int .u8 b,.int .u8 c,.int .u8 d,.int .u8 e,.int .u8 f,.int .u8 g,.int .u8 h] 5)):=cvAny 8 [a,b,c,d,e,f,g,h] rfl w
theorem p8 (n:Int) (h0:0≤n) (h1:n<18446744073709551616):[n/72057594037927936,n/281474976710656 % 256,n/1099511627776 % 256,n/4294967296 % 256,n/16777216 % 256,n/65536 % 256,n/256 % 256,n % 256]=pieces n 8:=by simp[pieces];omega
theorem put_8 (n:Int) (w:World) (h0:0≤n) (h1:n<18446744073709551616) :
 Calls prog 227 #[.int .u64 n,.int .i64 8] w fun e w'=>e=.returned (.tuple #[.string (strOfNums (pieces n 8)),.int .i64 0])∧Below w.heap.size w w':=by
 have hm:=mk8;have hc:=cv8;have hn:(n/18446744073709551616 != 0)=false:=by rw[Int.ediv_eq_zero_of_lt h0 h1];rfl
 go_enter func227,ntmps227;go_wp2;go_rounds 9;go_ret2
 rw[← p8 n h0 h1];exact⟨rfl,by go_grown⟩
theorem mput8 (n:Int) (w:World) (h0:0≤n) (h1:n<18446744073709551616):Calls prog 217 #[.int .u64 n,.int .i64 8] w fun e w'=>e=.returned (.string (pb n 8))∧Below w.heap.size w w':=by
 go_enter func217,ntmps217;go_wp2_with fail;refine(put_8 n _ h0 h1).mono ?_;rintro x w1 ⟨rfl,g⟩;go_wp2_with fail;go_ret;exact⟨rfl,g⟩
theorem mput_any (n:Int) (f:Int) (w:World) (hf : ¬ (f<1∨9<f)) (h0:0≤n) (h1:n≤grV f):Calls prog 217 #[.int .u64 n,.int .i64 (szV f)] w fun e w'=>e=.returned (.string (pb n (szV f)))∧Below w.heap.size w w':=by
 have h2:=Int.lt_of_le_of_lt h1 (gr_pow hf);rcases cls9 hf with rfl|rfl|rfl|rfl|rfl|rfl|rfl|rfl|rfl
 ·exact mput4 n w h0 h2
 ·exact mput8 n w h0 h2
 ·exact mput2 n w h0 h2
 ·exact mput2 n w h0 h2
 ·exact mput4 n w h0 h2
 ·exact mput4 n w h0 h2
 ·exact mput1 n w h0 h2
 ·exact mput2 n w h0 h2
 ·exact mput2 n w h0 h2
end Go.Proofs.YtgnihbdcdefdgaaGreatDoor
namespace Go.Proofs
open Go.Shelf
def Tryz.lays105_ren:Go.Shelf.Ren:=⟨fun|105=>219|212=>238|99=>239|165=>240|166=>241|170=>242|169=>243|263=>247|264=>248|206=>249|240=>250|241=>251|276=>252|277=>253|n=>n,fun|9=>9|3=>3|4=>4|20=>20|0=>0|46=>202|109=>275|5=>5|72=>280|76=>284|51=>45|146=>290|53=>44|148=>292|70=>278|37=>254|75=>283|127=>294|164=>295|80=>286|n=>n,fun|n=>n⟩
theorem Tryz.lays105:Go.Proofs.Lays.n105 Tryz.prog Tryz.lays105_ren:={
 mixed:=by kernel_rfl
 f99:=Tryz.func239.trans (congrArg some (by kernel_rfl))
 f105:=Tryz.func219.trans (congrArg some (by kernel_rfl))
 f165:=Tryz.func240.trans (congrArg some (by kernel_rfl))
 f166:=Tryz.func241.trans (congrArg some (by kernel_rfl))
 f169:=Tryz.func243.trans (congrArg some (by kernel_rfl))
 f170:=Tryz.func242.trans (congrArg some (by kernel_rfl))
 f206:=Tryz.func249.trans (congrArg some (by kernel_rfl))
 f212:=Tryz.func238.trans (congrArg some (by kernel_rfl))
 f240:=Tryz.func250.trans (congrArg some (by kernel_rfl))
 f241:=Tryz.func251.trans (congrArg some (by kernel_rfl))
 f263:=Tryz.func247.trans (congrArg some (by kernel_rfl))
 f264:=Tryz.func248.trans (congrArg some (by kernel_rfl))
 f276:=Tryz.func252.trans (congrArg some (by kernel_rfl))
 f277:=Tryz.func253.trans (congrArg some (by kernel_rfl))
 t0:=Tryz.underlying0
 a0:=Tryz.isAgg0
 z0:=Tryz.sizeOf0
 v0:=Tryz.zeroValue0
 t3:=Tryz.underlying3
 a3:=Tryz.isAgg3
 z3:=Tryz.sizeOf3
 v3:=Tryz.zeroValue3
 t4:=Tryz.underlying4
 a4:=Tryz.isAgg4
 z4:=Tryz.sizeOf4
 v4:=Tryz.zeroValue4
 t5:=Tryz.underlying5
 a5:=Tryz.isAgg5
 z5:=Tryz.sizeOf5
 v5:=Tryz.zeroValue5
 t9:=Tryz.underlying9
 a9:=Tryz.isAgg9
 z9:=Tryz.sizeOf9
 v9:=Tryz.zeroValue9
 t20:=Tryz.underlying20
 a20:=Tryz.isAgg20
 z20:=Tryz.sizeOf20
 v20:=Tryz.zeroValue20
 t37:=Tryz.underlying254
 a37:=Tryz.isAgg254
 z37:=Tryz.sizeOf254
 v37:=Tryz.zeroValue254
 t46:=Tryz.underlying202
 a46:=Tryz.isAgg202
 z46:=Tryz.sizeOf202
 v46:=Tryz.zeroValue202
 t51:=Tryz.underlying45
 a51:=Tryz.isAgg45
 z51:=Tryz.sizeOf45
 v51:=Tryz.zeroValue45
 t53:=Tryz.underlying44
 a53:=Tryz.isAgg44
 z53:=Tryz.sizeOf44
 v53:=Tryz.zeroValue44
 t70:=Tryz.underlying278
 a70:=Tryz.isAgg278
 z70:=Tryz.sizeOf278
 v70:=Tryz.zeroValue278
 t72:=Tryz.underlying280
 a72:=Tryz.isAgg280
 z72:=Tryz.sizeOf280
 v72:=Tryz.zeroValue280
 t75:=Tryz.underlying283
 a75:=Tryz.isAgg283
 z75:=Tryz.sizeOf283
 v75:=Tryz.zeroValue283
 t76:=Tryz.underlying284
 a76:=Tryz.isAgg284
 z76:=Tryz.sizeOf284
 v76:=Tryz.zeroValue284
 t109:=Tryz.underlying275
 a109:=Tryz.isAgg275
 z109:=Tryz.sizeOf275
 v109:=Tryz.zeroValue275
 t127:=Tryz.underlying294
 a127:=Tryz.isAgg294
 z127:=Tryz.sizeOf294
 v127:=Tryz.zeroValue294
 t146:=Tryz.underlying290
 a146:=Tryz.isAgg290
 z146:=Tryz.sizeOf290
 v146:=Tryz.zeroValue290
 t148:=Tryz.underlying292
 a148:=Tryz.isAgg292
 z148:=Tryz.sizeOf292
 v148:=Tryz.zeroValue292
 t164:=Tryz.underlying295
 a164:=Tryz.isAgg295
 z164:=Tryz.sizeOf295
 v164:=Tryz.zeroValue295 }
theorem Tryz.Builder_Extra_105:Builder.Extra Tryz.prog Tryz.lays105_ren:={
 sizeBuilder:=by kernel_rfl
 liesBuilder:=by kernel_rfl
 t5:=Tryz.underlying5
 a5:=Tryz.isAgg5
 z5:=Tryz.sizeOf5
 v5:=Tryz.zeroValue5
 infoByte:=by kernel_rfl
 cellsByte:=by kernel_rfl
 sizeByte:=by kernel_rfl
 neB5:=by decide }
open Go.RowKit Go.Lib in
theorem Tryz.strings_Repeat (s:ByteArray) (c:Nat) (w:World) (hc:c≤9223372036854775807) (hlen:s.size*c≤140737488355328) :
 Calls Tryz.prog 219 #[.string s,.int .i64 c] w fun e w'=>e=.returned (.string ⟨(Lib.repeatL s.data.toList c).toArray⟩)∧Below w.heap.size w w':=Any.strings_Repeat Tryz.lays105 Tryz.Builder_Extra_105 s c w hc hlen
end Go.Proofs

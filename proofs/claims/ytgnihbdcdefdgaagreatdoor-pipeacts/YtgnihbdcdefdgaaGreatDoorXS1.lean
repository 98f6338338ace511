import Derived.Test.YtgnihbdcdefdgaaGreatDoorX25
import Derived.Test.YtgnihbdcdefdgaaGreatDoorX31
import Derived.Deep.QuietTactic
import Derived.BigQuiet
import Derived.Test.YtgnihbdcdefdgaaGreatDoorX15
set_option maxHeartbeats 16000000
set_option maxRecDepth 20000
set_option linter.unusedSimpArgs false
set_option linter.unusedVariables false
open Go.ChangeShapes Go.WideShapes Go.ChangeAt Go.RowKit
open Go.Proofs.Tryz
namespace Go.Proofs.YtgnihbdcdefdgaaGreatDoor
abbrev OwnR (base:Nat) (w:World) (v:Value) (l:List Ot):Prop:=w.ownsRow base 102 12 v l.length (flatO l)
theorem infoRt:(prog.info? 102).map (fun i=>(i.zero,i.size,i.bytes))=some (some (.agg #[.int .i64 0,.int .u64 0,.int .u64 0,.int .i64 0,.int .i64 0,.int .u32 0,.int .u32 0,.int .i64 0,.int .i64 0,.int .i64 0,.int .i64 0,.string ⟨#[]⟩]),12,96):=by kernel_rfl
theorem flatO_take_succ (O:List Ot) (k:Nat) (h:k<O.length):O.take (k+1)=O.take k++[O[k]]:=by simp
structure Ou (w wr:World) (O:List Ot) (k:Nat) (a:Option Addr) (c:Nat):Prop where
 bel:Below w.heap.size w wr
 row:wr.ownsRow w.heap.size 102 12 (.slice a k c) k (flatO (O.take k))
theorem Ou.step {w wr w8:World} {O:List Ot} {k:Nat} {a a8:Option Addr} {c c8:Nat} {X:World} (h:Ou w wr O k a c) (hk:k<O.length) (gX:Below wr.heap.size wr X) (g:X.grownBy w8 (Value.slice a k c).ownBlock) (r:w8.ownsRow w.heap.size 102 12 (.slice a8 (k+1) c8) (k+1) (flatO (O.take k)++otC O[k])):Ou w w8 O (k+1) a8 c8:=by
 refine⟨?_,?_⟩
 ·have kp:=grow_kpt gX g;exact h.bel.trans (kp.below h.bel.size (fun b hb=>(h.row.lt b hb).1))
 ·rw[flatO_take_succ O k hk,flatO_append];simpa [flatO]using r
theorem outs_any (a:Option Addr) (cap:Nat) (O:List Ot) (base:Nat) (w:World) (h:OwnO base w (.slice a O.length cap) O) (hn:O.length≤64) :
 Calls prog 13 #[.slice a O.length cap] w fun e w'=>∃ v',e=.returned v'∧OwnR w.heap.size w' v' O∧Below w.heap.size w w':=by
 have Hh:Hid (OwnO base w (.slice a O.length cap) O):=h;obtain⟨i0,hi0,hz0,hz1,hz2⟩:=info_parts infoRt;have HS:Hid (Ou w w O 0 none 0):=(show Ou _ _ _ _ _ _ from⟨Below.refl _ _,World.ownsRow_nil w _ _ _⟩)
 obtain⟨N,hN⟩:∃ N,O.length=N:=⟨_,rfl⟩
 have HN:Hid (O.length=N):=hN;rw[hN]at hn;rw[hN];clear h hN;go_enter func13,ntmps13;go_wp2_with fail;go_loopw [3,4] (fun vl i wr=>∃ (k:Nat) (va:Option Addr) (vc:Nat),k≤N∧vl=.slice va k vc∧i=.int .i64 k∧Hid (Ou w wr O k va vc)) (fun _ i _=>N-(intOf i).toNat);case atStart=>exact⟨0,none,0,Nat.zero_le _,rfl,rfl,HS⟩
 case round =>
  clear HS;obtain⟨k,va,vc,hk,rfl,rfl,Hk⟩:=hrel;by_cases hlt:k<N
  ·have hltI:(k:Int)<(N:Int):=by omega
   have hkO:k<O.length:=by rw[HN.out];exact hlt
   obtain⟨g,ha,hg⟩:∃ gb,a=some ⟨gb,0,none⟩∧gb<w.heap.size:=by
    rcases Hh.out.2 with⟨_,h'⟩|⟨g',cap,cur,h',hb,_⟩
    ·omega
    ·cases h';exact⟨g',rfl,(Hh.out.lt g' rfl).2⟩
   subst ha;have hc:∀ j,j<12→wr.cell? ⟨g,k*12+j,none⟩=(otC O[k])[j]?:=fun j hj=>by
    rw[Hk.out.bel.cell (p:=⟨g,k*12+j,none⟩) hg,Hh.out.cellAt (k*12+j) (by omega)];exact flatO_at O k hkO j hj
   have HR:Hid (wr.ownsRow w.heap.size 102 12 (.slice va k vc) k (flatO (O.take k))):=Hk.out.row;have HSt:Hid (∀ X w8 a8 c8,Below wr.heap.size wr X→X.grownBy w8 (Value.slice va k vc).ownBlock→w8.ownsRow w.heap.size 102 12 (.slice a8 (k+1) c8) (k+1) (flatO (O.take k)++otC O[k])→Ou w w8 O (k+1) a8 c8):=(show ∀ X w8 a8 c8,_ from fun X w8 a8 c8 gX g r=>Hk.out.step hkO gX g r)
   generalize O[k]=x at *
   have c0:wr.cell? ⟨g,k*12,none⟩=some (.int .i64 x.1):=hc 0 (by omega);have c1:wr.cell? ⟨g,k*12+1,none⟩=some (.int .u64 x.2.to):=hc 1 (by omega);have c2:wr.cell? ⟨g,k*12+1+1,none⟩=some (.int .u64 x.2.fr):=hc 2 (by omega);have c3:wr.cell? ⟨g,k*12+1+2,none⟩=some (.int .i64 x.2.vl):=hc 3 (by omega);have c4:wr.cell? ⟨g,k*12+1+3,none⟩=some (.int .i64 x.2.ty):=hc 4 (by omega);have c5:wr.cell? ⟨g,k*12+1+4,none⟩=some (.int .u32 x.2.src):=hc 5 (by omega);have c6:wr.cell? ⟨g,k*12+1+5,none⟩=some (.int .u32 x.2.dst):=hc 6 (by omega);have c7:wr.cell? ⟨g,k*12+1+6,none⟩=some (.int .i64 x.2.life):=hc 7 (by omega);have c8:wr.cell? ⟨g,k*12+1+7,none⟩=some (.int .i64 x.2.pro):=hc 8 (by omega);have c9:wr.cell? ⟨g,k*12+1+8,none⟩=some (.int .i64 x.2.sp):=hc 9 (by omega);have c10:wr.cell? ⟨g,k*12+1+9,none⟩=some (.int .i64 x.2.dp):=hc 10 (by omega);have c11:wr.cell? ⟨g,k*12+1+10,none⟩=some (.string x.2.data):=hc 11 (by omega);have hzr:Hid (w.heap.size≤wr.heap.size):=Hk.out.bel.size;clear hc Hh Hk;go_wp2_with fail
   go_region_law (
    refine step_append_own rfl (.tmp 11) (.tmp 23) 51 rfl w.heap.size 102 i0 (.agg #[.int .i64 0,.int .u64 0,.int .u64 0,.int .i64 0,.int .i64 0,.int .u32 0,.int .u32 0,.int .i64 0,.int .i64 0,.int .i64 0,.int .i64 0,.string ⟨#[]⟩]) 12 96 underlying51 hi0 hz0 hz1 hz2 rfl (by decide) (.slice va k vc) k (flatO (O.take k)) rfl (HR.out.alloc _) ⟨wr.heap.size,0,none⟩ 1 1 (otC x) rfl rfl (cells_newL _ _ _) (otC_one _) (by unfold maxLen;omega) (by omega) (by have:=hzr.out;simp;omega) ?_;intro v' w8 hown' hgrow hfr;obtain⟨a8,cap8,rfl⟩:=own_sl hown';have HO:Hid (Ou w w8 O (k+1) a8 cap8):=HSt.out _ _ _ _ (by go_grown) hgrow hown';clear hown' hgrow hfr)
   all_goals
    go_wp2_with fail;go_roundw;case rel=>exact⟨k+1,a8,cap8,hlt,rfl,by go_num,HO⟩
    case measure=>simp[intOf];omega
  ·have hkl : ¬ (k:Int)<(N:Int):=by omega
   have HE:Hid (OwnR w.heap.size wr (.slice va k vc) O∧Below w.heap.size w wr):=(show _∧_ from by
    have e:O.take k=O:=List.take_of_length_le (by have:=HN.out;omega);have hl:O.length=k:=by have:=HN.out;omega
    have hrow:=Hk.out.row;rw[e]at hrow;refine⟨?_,Hk.out.bel⟩;unfold OwnR;rw[hl];exact hrow)
   clear Hk;go_wp2_with fail;go_ret;exact⟨_,rfl,HE.out⟩
structure Rr (w:World) (a:Option Addr) (O:List Ot):Prop where
 at':∀ k,k<O.length→∃ g,a=some ⟨g,0,none⟩∧g<w.heap.size
 c:∀ g,a=some ⟨g,0,none⟩→∀ k (h:k<O.length) j,j<12→w.cell? ⟨g,k*12+j,none⟩=(otC O[k])[j]?
theorem Rr.of {w:World} {base:Nat} {a:Option Addr} {c:Nat} {O:List Ot} (h:OwnR base w (.slice a O.length c) O):Rr w a O:=by
 refine⟨fun k hk => ?_,fun g ha k hk j hj => ?_⟩
 ·rcases h.2 with⟨_,h'⟩|⟨g',cap,cur,h',hb,_⟩
  ·omega
  ·cases h';exact⟨g',rfl,(h.lt g' rfl).2⟩
 ·subst ha;rw[h.cellAt (k*12+j) (by omega)];exact flatO_at O k hk j hj
structure Ro (w:World) (g k:Nat) (x:Ot):Prop where
 c0:w.cell? ⟨g,k*12,none⟩=some (.int .i64 x.1)
 c1:w.cell? ⟨g,k*12+1,none⟩=some (.int .u64 x.2.to)
 c2:w.cell? ⟨g,k*12+2,none⟩=some (.int .u64 x.2.fr)
 c3:w.cell? ⟨g,k*12+3,none⟩=some (.int .i64 x.2.vl)
 c4:w.cell? ⟨g,k*12+4,none⟩=some (.int .i64 x.2.ty)
 c5:w.cell? ⟨g,k*12+5,none⟩=some (.int .u32 x.2.src)
 c6:w.cell? ⟨g,k*12+6,none⟩=some (.int .u32 x.2.dst)
 c7:w.cell? ⟨g,k*12+7,none⟩=some (.int .i64 x.2.life)
 c8:w.cell? ⟨g,k*12+8,none⟩=some (.int .i64 x.2.pro)
 c9:w.cell? ⟨g,k*12+9,none⟩=some (.int .i64 x.2.sp)
 c10:w.cell? ⟨g,k*12+10,none⟩=some (.int .i64 x.2.dp)
 c11:w.cell? ⟨g,k*12+11,none⟩=some (.string x.2.data)
theorem Rr.ro {w wr:World} {a:Option Addr} {O:List Ot} (h:Rr w a O) (b:Below w.heap.size w wr) (k:Nat) (hk:k<O.length):∃ g,a=some ⟨g,0,none⟩∧Ro wr g k O[k]:=by
 obtain⟨g,ha,hg⟩:=h.at' k hk;have hc:∀ j,j<12→wr.cell? ⟨g,k*12+j,none⟩=(otC O[k])[j]?:=fun j hj=>(b.cell (p:=⟨g,k*12+j,none⟩) hg).trans (h.c g ha k hk j hj);exact⟨g,ha,hc 0 (by omega),hc 1 (by omega),hc 2 (by omega),hc 3 (by omega),hc 4 (by omega),hc 5 (by omega),hc 6 (by omega),hc 7 (by omega),hc 8 (by omega),hc 9 (by omega),hc 10 (by omega),hc 11 (by omega)⟩
theorem same_eq (a1:Option Addr) (c1:Nat) (a2:Option Addr) (c2:Nat) (O:List Ot) (w:World) (h1:Rr w a1 O) (h2:Rr w a2 O) (hn:O.length≤64) :
 Calls prog 12 #[.slice a1 O.length c1,.slice a2 O.length c2] w fun e w'=>e=.returned (.bool true)∧Below w.heap.size w w':=by
 have H1:Hid (Rr w a1 O):=h1;have H2:Hid (Rr w a2 O):=h2;obtain⟨N,hN⟩:∃ N,O.length=N:=⟨_,rfl⟩
 have HN:Hid (O.length=N):=hN;rw[hN]at hn;rw[hN];clear h1 h2 hN;go_enter func12,ntmps12;go_wp2_with fail;go_loopw [5] (fun i wr=>∃ k:Nat,k≤N∧i=.int .i64 k∧Hid (Below w.heap.size w wr)) (fun i _=>N-(intOf i).toNat);case atStart=>exact⟨0,Nat.zero_le _,rfl,(show Below _ _ _ from Below.refl _ _)⟩
 case round =>
  obtain⟨k,hk,rfl,Hk⟩:=hrel;by_cases hlt:k<N
  ·have hltI:(k:Int)<(N:Int):=by omega
   have hkO:k<O.length:=by rw[HN.out];exact hlt
   obtain⟨g1,rfl,r1⟩:=H1.out.ro Hk.out k hkO;obtain⟨g2,rfl,r2⟩:=H2.out.ro Hk.out k hkO;generalize O[k]=x at *
   obtain⟨c0,c1',c2',c3,c4,c5,c6,c7,c8,c9,c10,c11⟩:=r1;obtain⟨d0,d1,d2,d3,d4,d5,d6,d7,d8,d9,d10,d11⟩:=r2;clear H1 H2;go_wp2_with fail;go_quiet (fail);have Hq:Hid (Below w.heap.size w (wr.drewN nq)):=(show Below _ _ _ from bdr Hk.out nq)
   go_wp2_with fail;go_roundw;case rel=>exact⟨k+1,hlt,by go_num,Hq⟩
   case measure=>simp[intOf];omega
  ·have hkl : ¬ (k:Int)<(N:Int):=by omega
   go_wp2_with fail;go_ret;exact⟨rfl,Hk.out⟩
namespace Mt
theorem rsame_any (a1:Option Addr) (l:List T) (cap1:Nat) (a2:Option Addr) (b:List T) (cap2:Nat) (w:World) (h:Ts w a1 l) (hl:l.length≤100000) (h2:Ts w a2 b) (hl2:b.length≤100000) :
 Calls prog 44 #[.slice a1 l.length cap1,.slice a2 b.length cap2] w fun e w'=>e=.returned (.bool (sameB l b))∧Below w.heap.size w w':=by
 have hE:=neT;have hG:=guT;by_cases hq:l.length=b.length
 ·have hne:((l.length:Int) != (b.length:Int))=false:=by simp[hq]
  go_enter func44,ntmps44;go_wp2;go_loopw [5] (fun i wr=>∃ k:Nat,k≤l.length∧i=.int .i64 k∧l.take k=b.take k∧Below w.heap.size w wr) (fun i _=>l.length-(intOf i).toNat);case atStart=>exact⟨0,by omega,rfl,by simp,Below.refl _ _⟩
  case round =>
   obtain⟨k,hk,rfl,hn,hbel⟩:=hrel;by_cases hlt:k<l.length
   ·have hlt2:k<b.length:=by omega
    have hT:=h.below hbel;have hT2:=h2.below hbel;obtain⟨g,o,rfl,hg,hc⟩:=hT.at hlt;obtain⟨g2,o2,rfl,hg2,hc2⟩:=hT2.at hlt2;obtain⟨c0,c1,c2⟩:=hc k hlt;obtain⟨d0,d1,d2⟩:=hc2 k hlt2;go_wp2;go_quiet (fail);by_cases he:l[k]=b[k]
    ·have hd:eqB l[k] b[k]=true:=eqB_true.2 he;have HE:Hid (l.take (k+1)=b.take (k+1)):=(show _=_ by rw[take_snoc_get l k hlt,take_snoc_get b k hlt2,hn,he])
     clear he;rw[hd];go_wp2;go_roundw;case rel=>exact⟨k+1,by omega,by go_num,HE.out,bdr hbel _⟩
     case measure=>simp[intOf];omega
    ·have hd:eqB l[k] b[k]=false:=eqB_false.2 he;have HE:Hid (sameB l b=false):=(show _=_ by
      unfold sameB;rw[decide_eq_false_iff_not];intro hh;apply he;subst hh;rfl)
     clear he;rw[hd];go_wp2;go_ret;exact⟨by rw[HE.out];rfl,bdr hbel _⟩
   ·have hk':k=l.length:=by omega
    subst hk';rw[List.take_length,hq,List.take_length]at hn;have e:sameB l b=true:=by unfold sameB;exact decide_eq_true hn
    go_wp2;go_ret;exact⟨by rw[e];rfl,hbel⟩
 ·have hne:((l.length:Int) != (b.length:Int))=true:=by simp;omega
  have e:sameB l b=false:=by
   unfold sameB;rw[decide_eq_false_iff_not];intro hh;exact hq (by rw[hh])
  rw[e];go_enter func44,ntmps44;go_wp2;go_ret;exact⟨rfl,Below.refl _ _⟩
theorem clash_sym (t u:T):bits .and .u64 (bits .and .u64 (bits .xor .u64 t.2.1 u.2.1) t.2.2) u.2.2=bits .and .u64 (bits .and .u64 (bits .xor .u64 u.2.1 t.2.1) u.2.2) t.2.2:=by
 rw[u_and,u_and,bv_nat,u_xor,bv_nat,u_and,u_and,bv_nat,u_xor,bv_nat,BitVec.xor_comm,BitVec.and_assoc,BitVec.and_comm (bv t.2.2),← BitVec.and_assoc]
theorem feq_sym (a b:Int):(a==b)=(b==a):=by apply bool_iff;rw[beq_iff_eq,beq_iff_eq];exact eq_comm
theorem clash_at (t u:T) (x1 x2:Bool) (f1:(t.1==u.1)=x1) (f2:(bits .and .u64 (bits .and .u64 (bits .xor .u64 t.2.1 u.2.1) t.2.2) u.2.2 != 0)=x2):clashT t u=(x1&&x2):=by
 unfold clashT;rw[feq_sym,f1,← clash_sym,f2]
theorem rmeets_any (a1:Option Addr) (l:List T) (cap1:Nat) (a2:Option Addr) (b:List T) (cap2:Nat) (w:World) (h:Ts w a1 l) (hl:l.length≤100000) (h2:Ts w a2 b) (hl2:b.length≤100000) :
 Calls prog 63 #[.slice a1 l.length cap1,.slice a2 b.length cap2] w fun e w'=>e=.returned (.bool (meetsB l b))∧Below w.heap.size w w':=by
 unfold meetsB;go_enter func63,ntmps63;go_wp2;go_loopw [5] (fun i wr=>∃ k:Nat,k≤l.length∧i=.int .i64 k∧(l.take k).all (fun t=>b.all fun u=>!clashT t u)=true∧Below w.heap.size w wr) (fun i _=>l.length-(intOf i).toNat);case atStart=>exact⟨0,by omega,rfl,by simp,Below.refl _ _⟩
 case round =>
  obtain⟨k,hk,rfl,hn,hbel⟩:=hrel;by_cases hlt:k<l.length
  ·have hs:=all_snoc l (fun t=>b.all fun u=>!clashT t u) k hlt;rw[hn]at hs;have HS:Hid _:=hs;clear hs hn;go_wp2;go_loopw [6] (fun j wy=>∃ m:Nat,m≤b.length∧j=.int .i64 m∧(b.take m).all (fun u=>!clashT l[k] u)=true∧Below w.heap.size w wy) (fun j _=>b.length-(intOf j).toNat);case atStart=>exact⟨0,by omega,rfl,by simp,hbel⟩
   case round =>
    obtain⟨m,hm,rfl,hn2,hbel2⟩:=hrel;by_cases hlt2:m<b.length
    ·have hs2:=all_snoc b (fun u=>!clashT l[k] u) m hlt2;rw[hn2]at hs2;have hT:=h.below hbel2;have hT2:=h2.below hbel2;obtain⟨g,o,rfl,hg,hc⟩:=hT.at hlt;obtain⟨g2,o2,rfl,hg2,hc2⟩:=hT2.at hlt2;obtain⟨c0,c1,c2⟩:=hc k hlt;obtain⟨d0,d1,d2⟩:=hc2 m hlt2;cases f1:(l[k].1==b[m].1)
     ·have HE:Hid ((b.take (m+1)).all (fun u=>!clashT l[k] u)=true):=(show _=_ by rw[hs2,clash_at _ _ _ _ f1 rfl];rfl)
      clear hs2 hn2;go_wp2;go_quiet (fail);go_wp2;go_roundw;case rel=>exact⟨m+1,by omega,by go_num,HE.out,bdr hbel2 _⟩
      case measure=>simp[intOf];omega
     ·cases f2:(bits .and .u64 (bits .and .u64 (bits .xor .u64 l[k].2.1 b[m].2.1) l[k].2.2) b[m].2.2 != 0)
      ·have HE:Hid ((b.take (m+1)).all (fun u=>!clashT l[k] u)=true):=(show _=_ by rw[hs2,clash_at _ _ _ _ f1 f2];rfl)
       clear hs2 hn2;go_wp2;go_quiet (fail);try rw[f2]
       go_wp2;go_roundw;case rel=>exact⟨m+1,by omega,by go_num,HE.out,bdr hbel2 _⟩
       case measure=>simp[intOf];omega
      ·have HE:Hid ((b.take (m+1)).all (fun u=>!clashT l[k] u)=false):=(show _=_ by rw[hs2,clash_at _ _ _ _ f1 f2];rfl)
       have HE2:Hid (l.all (fun t=>b.all fun u=>!clashT t u)=false):=(show _=_ from all_of_take l _ (k+1) (by rw[HS.out,all_of_take b _ (m+1) HE.out];rfl))
       clear hs2 hn2;go_wp2;go_quiet (fail);try rw[f2]
       go_wp2;go_ret;exact⟨by rw[HE2.out];rfl,bdr hbel2 _⟩
    ·have hm':m=b.length:=by omega
     subst hm';rw[List.take_length]at hn2;have HE:Hid ((l.take (k+1)).all (fun t=>b.all fun u=>!clashT t u)=true):=(show _=_ by rw[HS.out,hn2];rfl)
     go_wp2;go_roundw;case rel=>exact⟨k+1,by omega,by go_num,HE.out,hbel2⟩
     case measure=>simp[intOf];omega
  ·have hk':k=l.length:=by omega
   subst hk';rw[List.take_length]at hn;go_wp2;go_ret;exact⟨by rw[hn];rfl,hbel⟩
end Mt
end Go.Proofs.YtgnihbdcdefdgaaGreatDoor

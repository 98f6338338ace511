import Derived.Test.YtgnihbdcdefdgaaGreatDoorX20
import Derived.Test.YtgnihbdcdefdgaaGreatDoorX16
import Derived.Test.YtgnihbdcdefdgaaGreatDoorX04
import Derived.Test.YtgnihbdcdefdgaaGreatDoorX13
import Derived.Test.YtgnihbdcdefdgaaGreatDoorX22
set_option maxRecDepth 20000
set_option maxHeartbeats 8000000
set_option linter.unusedSimpArgs false
set_option linter.unusedVariables false
open Go.ChangeShapes Go.WideShapes Go.ChangeAt Go.RowKit
open Go.Proofs.Tryz
namespace Go.Proofs.YtgnihbdcdefdgaaGreatDoor
namespace Gp
structure ChW (w:World) (g:Gr) (la:Option Addr) (live:List Bool):Prop where
 bs:Bs w g.a g.l
 sm:Sm g.l
 we:∀ b∈g.l,b.we≤1099511627776
 ls:Ls w la live
 ln:live.length≤1000
theorem sm_sub {l r:List Bk} (h:Sm l) (hl:r.length≤l.length) (hm:∀ b∈r,b∈l):Sm r:=⟨Nat.le_trans hl h.n,fun b hb=>h.a b (hm b hb)⟩
theorem bs_sub {w:World} {a:Option Addr} {l r:List Bk} {a':Option Addr} (h:Bs w a l) (hm:∀ b∈r,b∈l) {w':World} (k:Below w.heap.size w w') (hr:Rs w' a' r):Bs w' a' r:=⟨fun b hb=>(h.1 b (hm b hb)).below k,hr⟩
theorem choose_any (g:Gr) (la:Option Addr) (live:List Bool) (lc:Nat) (n:Int) (w:World) (h:ChW w g la live) (n0 : -9223372036854775808≤n) (n1:n≤9223372036854775807) :
 Calls prog 124 #[gV g,.slice la live.length lc,.int .i64 n] w fun e w'=>∃ a' c' r,e=.returned (.slice a' r.length c')∧r.map Bk.b3=(chooseL g.kd g.l live n).map Bk.b3∧BsF w.heap.size w' a' r∧Below w.heap.size w w':=by
 obtain⟨id,kd,ga,l,gc⟩:=g;obtain⟨hT,hS,hwe,hLs,hln⟩:=h;simp only at hT hS hwe;obtain⟨V,hV⟩:∃ V,w.alloc (.cells #[.int .i64 id,.int .i64 kd,.slice ga l.length gc] 81)=V:=⟨_,rfl⟩
 have GV:Below w.heap.size w V:=by rw[← hV];go_grown
 have cV:Cg V w.heap.size 0 ⟨id,kd,ga,l,gc⟩:=by rw[← hV];exact Cg.new w ⟨id,kd,ga,l,gc⟩
 have c1:V.cell? ⟨w.heap.size,1,none⟩=some (.int .i64 kd):=cV.2.1;have c2:V.cell? ⟨w.heap.size,2,none⟩=some (.slice ga l.length gc):=cV.2.2;have TV:Bs V ga l:=hT.below GV;have HV:Hid (w.alloc (.cells #[.int .i64 id,.int .i64 kd,.slice ga l.length gc] 81)=V):=hV;have HGV:Hid (Below w.heap.size w V):=GV;have HC:Hid (∀ (a':Option Addr) (r:List Bk) (c':Nat) w1,Below V.heap.size V w1→Rs w1 a' r→r.length≤l.length→(∀ b∈r,b∈l)→Calls prog 88 #[.slice a' r.length c'] w1 fun e w'=>∃ a'' c'' r',e=.returned (.slice a'' r'.length c'')∧r'.map Bk.b3=r.map Bk.b3∧BsF w.heap.size w' a'' r'∧Below w.heap.size w w'):=(show ∀ (a':Option Addr) (r:List Bk) (c':Nat) w1,_ from fun a' r c' w1 k hr hl hm=>by
  refine(copies_any a' r c' w1 (bs_sub TV hm k hr) (sm_sub hS hl hm)).mono ?_;rintro e w' ⟨a'',c'',r',rfl,h1,h2,h3⟩;have hz:=GV.size;have hk:=k.size;exact⟨a'',c'',r',rfl,h1,h2.mono (by omega) (Nat.le_refl _) (fun _ _ _=>rfl),btr (btr GV k (Nat.le_refl _)) h3 (Nat.le_refl _)⟩)
 have HAl:Hid (Calls prog 164 #[.slice ga l.length gc,.slice la live.length lc] V fun e w'=>∃ v,e=.returned v∧BrI V v (l.filter fun b=>alvB live b.wa) w'):=alive_any ga l gc la live lc V TV hS.n (hLs.below GV) hln;have hfl:(l.filter fun b=>alvB live b.wa).length≤l.length:=List.length_filter_le _ _;have hfm:∀ b∈(l.filter fun b=>alvB live b.wa),b∈l:=fun b hb=>(List.mem_filter.1 hb).1;have hRs0:Rs V ga l:=TV.2;show Calls prog 124 #[.agg #[.int .i64 id,.int .i64 kd,.slice ga l.length gc],.slice la live.length lc,.int .i64 n] w fun e w'=>∃ a' c' r,e=.returned (.slice a' r.length c')∧r.map Bk.b3=(chooseL kd l live n).map Bk.b3∧BsF w.heap.size w' a' r∧Below w.heap.size w w';have hS100:=hS.n;rcases kind4 kd with rfl|rfl|rfl|rfl|⟨b1,b2,b3,b4,hk⟩
 ·have hch:chooseL 1 l live n=l:=by unfold chooseL;rw[if_pos (.inl rfl)]
  rw[hch];have HCC:Hid (Calls prog 88 #[.slice ga l.length gc] V fun e w'=>∃ a'' c'' r',e=.returned (.slice a'' r'.length c'')∧r'.map Bk.b3=l.map Bk.b3∧BsF w.heap.size w' a'' r'∧Below w.heap.size w w'):=HC.out ga l gc V (Below.refl _ _) hRs0 (Nat.le_refl _) (fun _ hb=>hb);clear hT hS hwe hLs hln hV GV cV TV HC HAl hfl hfm hRs0 hch;go_enter func124,ntmps124;go_wp2_with fail;rw[HV.out];refine HCC.out.mono ?_;rintro e w1 ⟨a'',c'',r',rfl,h1,h2,h3⟩;go_wp2_with fail;go_ret;exact⟨a'',c'',r',rfl,h1,h2,h3⟩
 ·
  have hch:chooseL 2 l live n=pickL ((l.filter fun b=>alvB live b.wa).filter fun b=>decide (0<b.we)) n:=by unfold chooseL;rw[if_neg (by decide),if_neg (by decide),if_pos rfl]
  rw[hch];have hW:Wt ((l.filter fun b=>alvB live b.wa).filter fun b=>decide (0<b.we)):=fun b hb=>by
   obtain⟨h1,h2⟩:=List.mem_filter.1 hb;exact⟨of_decide_eq_true h2,hwe b (hfm b h1)⟩
  have hfl2:((l.filter fun b=>alvB live b.wa).filter fun b=>decide (0<b.we)).length≤l.length:=Nat.le_trans (List.length_filter_le _ _) hfl;have HW:Hid (∀ v w1,BrI V v (l.filter fun b=>alvB live b.wa) w1→Calls prog 166 #[v] w1 fun e w'=>∃ v',e=.returned v'∧BrI V v' ((l.filter fun b=>alvB live b.wa).filter fun b=>decide (0<b.we)) w'):=(show ∀ v w1,_ from fun v w1 k=>by
   obtain⟨a,c,e,_,_,k3⟩:=k.rs;rw[e];refine(weighty_any a _ c w1 ⟨fun b hb=>(TV.1 b (hfm b hb)).below k.bel,k3⟩ (by omega)).mono ?_;rintro e w' ⟨v',rfl,h1⟩;have hz:=k.bel.size;exact⟨v',rfl,⟨by
    rcases h1.row.2 with⟨x1,x2⟩|⟨g,cap,cur,x1,x2,x3⟩
    ·exact⟨h1.row.1,.inl ⟨x1,x2⟩⟩
    ·exact⟨h1.row.1,.inr ⟨g,cap,cur,x1,by omega,x3⟩⟩,btr k.bel h1.bel (Nat.le_refl _)⟩⟩)
  have HP:Hid (∀ v w1,BrI V v ((l.filter fun b=>alvB live b.wa).filter fun b=>decide (0<b.we)) w1→Calls prog 165 #[v,.int .i64 n] w1 fun e w'=>∃ a' c',e=.returned (.slice a' (pickL ((l.filter fun b=>alvB live b.wa).filter fun b=>decide (0<b.we)) n).length c')∧Rs w' a' (pickL ((l.filter fun b=>alvB live b.wa).filter fun b=>decide (0<b.we)) n)∧Below V.heap.size V w'):=(show ∀ v w1,_ from fun v w1 k=>picked_any V v _ w1 k (by omega) hW n n0 n1)
  have hpm:∀ b∈pickL ((l.filter fun b=>alvB live b.wa).filter fun b=>decide (0<b.we)) n,b∈(l.filter fun b=>alvB live b.wa).filter fun b=>decide (0<b.we):=fun b hb=>pickL_mem hb;have HPm:Hid (∀ b∈pickL ((l.filter fun b=>alvB live b.wa).filter fun b=>decide (0<b.we)) n,b∈l):=(show ∀ b,_ from fun b hb=>hfm b (List.mem_filter.1 (hpm b hb)).1)
  have HPl:Hid ((pickL ((l.filter fun b=>alvB live b.wa).filter fun b=>decide (0<b.we)) n).length≤l.length):=(show _≤_ by
   have h1:=pickL_len ((l.filter fun b=>alvB live b.wa).filter fun b=>decide (0<b.we)) n;by_cases hz:pickL ((l.filter fun b=>alvB live b.wa).filter fun b=>decide (0<b.we)) n=[]
   ·rw[hz];simp
   ·obtain⟨x,hx⟩:=List.exists_mem_of_ne_nil _ hz;have hxl:x∈l:=HPm.out x hx;have:0<l.length:=List.length_pos_of_mem hxl;omega)
  clear hT hS hwe hLs hln hV GV cV TV hfl hfm hRs0 hch hW hfl2 hpm;generalize pickL ((l.filter fun b=>alvB live b.wa).filter fun b=>decide (0<b.we)) n=PL at *
  generalize (l.filter fun b=>alvB live b.wa).filter (fun b=>decide (0<b.we))=WL at *
  generalize l.filter (fun b=>alvB live b.wa)=AL at *
  go_enter func124,ntmps124;go_wp2_with fail;rw[HV.out];refine HAl.out.mono ?_;rintro e w1 ⟨v1,rfl,k1⟩;have K1:Hid (BrI V v1 AL w1):=k1;clear k1;go_wp2_with fail;refine(HW.out v1 w1 K1.out).mono ?_;rintro e w2 ⟨v2,rfl,k2⟩;have K2:Hid (BrI V v2 WL w2):=k2;clear k2;go_wp2_with fail;refine(HP.out v2 w2 K2.out).mono ?_;rintro e w3 ⟨a3,c3,rfl,k3,g3⟩;have K3:Hid (Rs w3 a3 PL∧Below V.heap.size V w3):=(show _∧_ from⟨k3,g3⟩)
  clear k3 g3;go_wp2_with fail;refine(HC.out a3 PL c3 w3 K3.out.2 K3.out.1 HPl.out HPm.out).mono ?_;rintro e w4 ⟨a'',c'',r',rfl,h1,h2,h3⟩;go_wp2_with fail;go_ret;exact⟨a'',c'',r',rfl,h1,h2,h3⟩
 ·have hch:chooseL 3 l live n=l:=by unfold chooseL;rw[if_pos (.inr rfl)]
  rw[hch];have HCC:Hid (Calls prog 88 #[.slice ga l.length gc] V fun e w'=>∃ a'' c'' r',e=.returned (.slice a'' r'.length c'')∧r'.map Bk.b3=l.map Bk.b3∧BsF w.heap.size w' a'' r'∧Below w.heap.size w w'):=HC.out ga l gc V (Below.refl _ _) hRs0 (Nat.le_refl _) (fun _ hb=>hb);clear hT hS hwe hLs hln hV GV cV TV HC HAl hfl hfm hRs0 hch;go_enter func124,ntmps124;go_wp2_with fail;rw[HV.out];refine HCC.out.mono ?_;rintro e w1 ⟨a'',c'',r',rfl,h1,h2,h3⟩;go_wp2_with fail;go_ret;exact⟨a'',c'',r',rfl,h1,h2,h3⟩
 ·
  have hch:chooseL 4 l live n=(l.filter fun b=>alvB live b.wa).take 1:=by unfold chooseL;rw[if_neg (by decide),if_pos rfl]
  rw[hch];have HF:Hid (∀ v w1,BrI V v (l.filter fun b=>alvB live b.wa) w1→Calls prog 163 #[v] w1 fun e w'=>∃ a' c',e=.returned (.slice a' ((l.filter fun b=>alvB live b.wa).take 1).length c')∧Rs w' a' ((l.filter fun b=>alvB live b.wa).take 1)∧w'=w1):=(show ∀ v w1,_ from fun v w1 k=>by
   obtain⟨a,c,e,k1,k2,k3⟩:=k.rs;rw[e];exact first_any a _ c w1 k3 (by omega) k1 k2)
  have HPm:Hid (∀ b∈(l.filter fun b=>alvB live b.wa).take 1,b∈l):=(show ∀ b,_ from fun b hb=>hfm b (List.mem_of_mem_take hb))
  have HPl:Hid (((l.filter fun b=>alvB live b.wa).take 1).length≤l.length):=(show _≤_ by rw[List.length_take];omega)
  clear hT hS hwe hLs hln hV GV cV TV hfl hfm hRs0 hch;generalize l.filter (fun b=>alvB live b.wa)=AL at *
  generalize AL.take 1=PL at *
  go_enter func124,ntmps124;go_wp2_with fail;rw[HV.out];refine HAl.out.mono ?_;rintro e w1 ⟨v1,rfl,k1⟩;have K1:Hid (BrI V v1 AL w1):=k1;clear k1;go_wp2_with fail;refine(HF.out v1 w1 K1.out).mono ?_;rintro e w2 ⟨a3,c3,rfl,k3,rfl⟩;have K3:Hid (Rs w2 a3 PL):=k3;clear k3;go_wp2_with fail;refine(HC.out a3 PL c3 w2 K1.out.bel K3.out HPl.out HPm.out).mono ?_;rintro e w4 ⟨a'',c'',r',rfl,h1,h2,h3⟩;go_wp2_with fail;go_ret;exact⟨a'',c'',r',rfl,h1,h2,h3⟩
 ·have hch:chooseL kd l live n=[]:=by
   simp at b1 b2 b3 b4;unfold chooseL;rw[if_neg (by omega),if_neg b4,if_neg b2]
  rw[hch];clear hT hS hwe hLs hln hV GV cV TV HC HAl hfl hfm hRs0 hch hk;go_enter func124,ntmps124;go_wp2_with fail;rw[HV.out];go_ret;exact⟨none,0,[],rfl,rfl,⟨by simp,.inl rfl⟩,HGV.out⟩
end Gp
structure Sb (w:World) (b:Nat) (s:Mt.Sn):Prop where
 r:w.rangeAt b 0 (Mt.snC s).toList
 t:w.there b 0 13
theorem Sb.new (w:World) (s:Mt.Sn):Sb (Mt.bx w s) w.heap.size s:=⟨range_new w (Mt.snC s) _,there_new w (Mt.snC s) _⟩
theorem Sb.block {w w':World} {b:Nat} {s:Mt.Sn} (h:Sb w b s) (g:w'.heap[b]? = w.heap[b]?):Sb w' b s:=⟨range_block h.r g,there_block h.t g⟩
theorem Sb.below {w w':World} {b B:Nat} {s:Mt.Sn} (h:Sb w b s) (hb:b<B) (g:Below B w w'):Sb w' b s:=h.block (g.block b hb)
theorem Sb.at {w:World} {b:Nat} {s:Mt.Sn} (h:Sb w b s) (j:Nat) (v:Value) (hv:(Mt.snC s).toList[j]? = some v):w.cell? ⟨b,j,none⟩=some v:=by
 have:=h.r j v hv;rwa [Nat.zero_add]at this
theorem Sb.bx {w:World} {b:Nat} {s:Mt.Sn} (h:Sb w b s):Mt.Bx w b s:=⟨h.at 0 _ rfl,h.at 1 _ rfl,h.at 2 _ rfl,h.at 3 _ rfl,h.at 4 _ rfl,h.at 5 _ rfl,h.at 6 _ rfl,h.at 7 _ rfl,h.at 8 _ rfl,h.at 9 _ rfl,h.at 10 _ rfl,h.at 11 _ rfl,h.at 12 _ rfl⟩
theorem Sb.fz {w:World} {b:Nat} {s:Mt.Sn} (h:Sb w b s) (j:Nat) (hj:j<13):w.frozen? ⟨b,j,none⟩=false:=by
 have:=(h.t j hj).2;rwa [Nat.zero_add]at this
theorem infoSb (x:Mt.Sn):(prog.info? 49).map (·.size)=some (Mt.snC x).toList.length:=by kernel_rfl
theorem hiSb (x:Mt.Sn):(prog.info? 49).map (·.size)=some (Mt.snC x).size:=by kernel_rfl
theorem oneSb (x:Mt.Sn):(Mt.snC x).all (·.oneCell')=true:=by simp[Value.oneCell']
theorem loadSb (w:World) (b:Nat) (x:Mt.Sn) (h:Sb w b x):(loadVar 49 ⟨b,0,none⟩).run prog w=.ok (Mt.snV x) w:=run_loadVar_mid w b 0 49 (Mt.snC x).toList _ h.r underlying49 rfl (infoSb x)
theorem resSb {fn:Func} {t:Tmp} (h:fn.results=#[.cell t 49]) {tmps:Array Value} {w:World} {b:Nat} {x:Mt.Sn} (ht:tmps.getD t undef=.pointer (some ⟨b,0,none⟩)) (hs:Sb w b x) :
 (results fn tmps).run prog w=.ok (Mt.snV x) w:=by
 have ht':tmps[t]?.getD undef=.pointer (some ⟨b,0,none⟩):=by simpa using ht
 simp[results,h,ht',asAddr,loadSb w b x hs]
theorem resVb {fn:Func} {t u:Tmp} (h:fn.results=#[.tmp u,.cell t 49]) {tmps:Array Value} {w:World} {b:Nat} {x:Mt.Sn} (ht:tmps.getD t undef=.pointer (some ⟨b,0,none⟩)) (hs:Sb w b x) :
 (results fn tmps).run prog w=.ok (.tuple #[tmps.getD u undef,Mt.snV x]) w:=by
 have ht':tmps[t]?.getD undef=.pointer (some ⟨b,0,none⟩):=by simpa using ht
 simp[results,h,ht',asAddr,loadSb w b x hs]
theorem load_Sb {ops:Array Oper} {rest:List Oper} {op:Oper} {a:Go.Act} {w:World} {Q:Exit→Go.Act→World→Prop} (hw:Region.wanted op (yielded ops a.tmps)=true) (t:Operand) (ho:op.op=.load 49 t)
 (b:Nat) (x:Mt.Sn) (hx:a.eval t=.pointer (some ⟨b,0,none⟩)) (hB:Sb w b x)
 (h:wpList prog ops Q rest (a.put op.dst (Mt.snV x)) w):wpList prog ops Q (op::rest) a w :=
 BigFrame.wpList_want hw fun _ hK=>wp_load_mid 49 t ho b 0 hx (Mt.snC x).toList _ hB.r underlying49 rfl (infoSb x) (hK _ _ h)
theorem store_Sb {ops:Array Oper} {rest:List Oper} {op:Oper} {a:Go.Act} {w:World} {Q:Exit→Go.Act→World→Prop} (hgd:op.guard=none) (t y:Operand) (ho:op.op=.store 49 t y)
 (b:Nat) (x:Mt.Sn) (hx:a.eval t=.pointer (some ⟨b,0,none⟩)) (hy:a.eval y=Mt.snV x) (ht:w.there b 0 13)
 (h:∀ V,Sb V b x→Only b w V→wpList prog ops Q rest (a.put op.dst undef) V):wpList prog ops Q (op::rest) a w :=
 wpList_store_mid hgd 49 t y ho b 0 (Mt.snC x) hx hy ht (hiSb x) (oneSb x) (h _ ⟨World.rangeAt_setCells_same w b 0 (Mt.snC x).toList ht,World.there_setCells ht b 0 _⟩ (only_cells b _ _ _ _ (Only.refl b w)))
structure Ge (t:Nat) (w:World) (p:Tp) (tb mb:Nat) (room:Int) (L:List Gp.Gr) (live:List Bool):Prop where
 pg:p.g=some ⟨tb,0,none⟩
 tbl:Gp.Tb w tb mb room L
 l1:tb<t
 l2:mb<t
 l3:∀ g∈L,∀ b,Gp.InB g.a g.l b→b<t
 ln:p.ln=live.length
 lv:Gp.Ls w p.la live
 lt:live≠[]→∀ g o,p.la=some ⟨g,o,none⟩→g<t
 le:live.length≤1000
 pl : -9223372036854775808≤p.pick
 ph:p.pick≤9223372036854775807
theorem Gp.GW.low {w w':World} {mb t:Nat} {g:Gp.Gr} (h:Gp.GW w mb g) (k:Below t w w') (hl:∀ b,Gp.InB g.a g.l b→b<t):Gp.GW w' mb g :=
 ⟨h.bs.stay k.size (fun b hb _=>k.block b (hl b hb)),h.sm,h.ok,h.ne⟩
theorem Ge.low {t:Nat} {w w':World} {p:Tp} {tb mb:Nat} {room:Int} {L:List Gp.Gr} {live:List Bool} (h:Ge t w p tb mb room L live) (k:Below t w w'):Ge t w' p tb mb room L live:=by
 have hb:=k.block tb h.l1;refine⟨h.pg,⟨(World.cell?_of_block (w:=w) hb).trans h.tbl.c0,(World.cell?_of_block (w:=w) hb).trans h.tbl.c1,Nat.lt_of_lt_of_le h.tbl.lt k.size,?_,fun g hg=>(h.tbl.grp g hg).low k (h.l3 g hg),h.tbl.srt⟩,h.l1,h.l2,h.l3,h.ln,?_,h.lt,h.le,h.pl,h.ph⟩
 ·obtain⟨es,clock,h1,h2,h3,h4⟩:=h.tbl.own;exact⟨es,clock,(k.block mb h.l2).trans h1,h2,h3,h4⟩
 ·by_cases he:live=[]
  ·exact .inl he
  ·rcases h.lv with e|⟨g,o,ha,hg,hc⟩
   ·exact .inl e
   ·exact .inr ⟨g,o,ha,Nat.lt_of_lt_of_le hg k.size,fun i hi=>(World.cell?_of_block (w:=w) (k.block g (h.lt he g o ha))).trans (hc i hi)⟩
abbrev Lft (t:Nat) (p:Tp) (v:Value) (w:World) (σ:St) (e:Ending) (w':World):Prop:=e=.returned (.tuple #[])∧∃ v',Tr w' t p v' σ.1 σ.2∧Eff t v w v' w'
def ThrC (t:Nat) (p:Tp) (tb mb:Nat) (room:Int) (L:List Gp.Gr) (live:List Bool) (d:Int) (thr:Mt.Sn→Int→St→St):Prop :=
 ∀ (s:Mt.Sn) (id:Int) (v:Value) (σ:St) (w:World),Tr w t p v σ.1 σ.2→Ge t w p tb mb room L live→0≤id→id<18446744073709551616 →
   Calls prog 83 #[.pointer (some ⟨t,0,none⟩),Mt.snV s,.int .u64 id,.int .i64 d] w (Lft t p v w (thr s id σ))
theorem Eff.only {t:Nat} {v v':Value} {w w' V:World} {b:Nat} (h:Eff t v w v' w') (o:Only b w' V) (hb:w.heap.size≤b):Eff t v w v' V :=
 ⟨⟨o.os.trans h.kpt.os,o.tape.trans h.kpt.tape,o.output.trans h.kpt.output,by rw[o.size];exact h.kpt.size,fun k hk hs=>(o.block k (by omega)).trans (h.kpt.block k hk hs)⟩,h.own⟩
theorem Tr.only {w V:World} {t:Nat} {p:Tp} {v:Value} {O:List Ot} {nb b:Nat} (h:Tr w t p v O nb) (o:Only b w V) (hb:b≠t) (hv:v.ownBlock≠some b):Tr V t p v O nb :=
 h.stay (by rw[o.size];exact Nat.le_refl _) (o.block t (fun e=>hb e.symm)) (fun k hk=>o.block k (fun e=>hv (by rw[← e];exact hk)))
def Apt (t:Nat) (v:Value) (a:Option Addr) (l:List A):Prop:=∀ b,InT a l b→b≠t∧v.ownBlock≠some b
theorem Ts.eff {t:Nat} {v v':Value} {w w':World} {a:Option Addr} {l:List A} (h:Ts w a l) (k:Eff t v w v' w') (ha:Apt t v a l):Ts w' a l :=
 h.stay k.size (fun b hb hlt=>k.block hlt (ha b hb).1 (ha b hb).2)
theorem do_any (t:Nat) (p:Tp) (tb mb:Nat) (room:Int) (L:List Gp.Gr) (live:List Bool) (d:Int) (thr:Mt.Sn→Int→St→St) (HT:Hid (ThrC t p tb mb room L live d thr))
 (a:Option Addr) (l:List A) (cap:Nat) (s:Mt.Sn) (v:Value) (σ:St) (w:World) (T:Tr w t p v σ.1 σ.2) (G:Ge t w p tb mb room L live) (hL:Ts w a l) (hA:Apt t v a l) (hW:AWs l) (hl:l.length≤1000) :
 Calls prog 72 #[.pointer (some ⟨t,0,none⟩),Mt.snV s,.slice a l.length cap,.int .i64 d] w (Lft t p v w (doV live thr l s σ)):=by
 have htl:=T.lt;have HTw:Hid (Tr w t p v σ.1 σ.2):=T;have HG:Hid (Ge t w p tb mb room L live):=G;have HL:Hid (Ts w a l∧Apt t v a l∧AWs l):=(show _∧_ from⟨hL,hA,hW⟩)
 have hv0:v.ownBlock≠some w.heap.size:=fun e=>by have:=(T.own e).2;omega
 obtain⟨V,hV⟩:∃ V,w.alloc (.cells (Mt.snC s) 49)=V:=⟨_,rfl⟩
 have g0:Below w.heap.size w V:=by rw[← hV];go_grown
 have T0:Tr V t p v σ.1 σ.2:=T.below g0;have S0:Sb V w.heap.size s:=by rw[← hV];exact Sb.new w s
 have z0:w.heap.size+1≤V.heap.size:=by rw[← hV];simp
 have E0:Eff t v w v V:=Eff.of_below g0;have HV:Hid (w.alloc (.cells (Mt.snC s) 49)=V):=hV;clear T G hL hA hW hV g0;go_enter func72,ntmps72;go_wp2_with fail;rw[HV.out]
 go_loopw [12] (fun i wr=>∃ (k:Nat) (s':Mt.Sn) (v':Value) (σ':St),k≤l.length∧i=.int .i64 k∧Hid (doV live thr l s σ=doV live thr (l.drop k) s' σ')∧Hid (Sb wr w.heap.size s')∧Hid (Tr wr t p v' σ'.1 σ'.2)∧Hid (Eff t v w v' wr)∧Hid (v'.ownBlock≠some w.heap.size)∧w.heap.size+1≤wr.heap.size)
  (fun i _=>(l.length-(intOf i).toNat))
 case atStart=>exact⟨0,s,v,σ,Nat.zero_le _,rfl,(show _=_ from rfl),S0,T0,E0,hv0,z0⟩
 case round =>
  clear S0 T0 E0 z0 hv0;obtain⟨k,s',v',σ',hk,rfl,HR,HS,HTr,HE,Hv,hz⟩:=hrel;by_cases hlt:k<l.length
  ·have hTs:=(HL.out.1.eff HE.out HL.out.2.1)
   obtain⟨g,o,ha,hg,hc⟩:=hTs.at hlt;obtain⟨c0,c1,c2⟩:=hc k hlt;have hdrop:l.drop k=l[k]::l.drop (k+1):=List.drop_eq_getElem_cons hlt;have hAW:AW l[k]:=HL.out.2.2 _ (List.getElem_mem hlt);have HR2:Hid (doV live thr l s σ=doV live thr (l[k]::l.drop (k+1)) s' σ'):=(show _=_ by rw[HR.out,hdrop])
   have hltI:(k:Int)<(l.length:Int):=by omega
   generalize l[k]=x at *
   obtain⟨x1,x2,x3⟩:=x;subst ha;obtain⟨U,hU⟩:∃ U,wr.alloc (.cells #[.int .i64 x1,.int .i64 x2,.int .u64 x3] 95)=U:=⟨_,rfl⟩
   have gU:Below wr.heap.size wr U:=by rw[← hU];go_grown
   have HTU:Hid (Tr U t p v' σ'.1 σ'.2):=HTr.out.below gU;have HSU:Hid (Sb U w.heap.size s'):=HS.out.below (by omega) gU;have HEU:Hid (Eff t v' wr v' U):=Eff.of_below gU;have HGU:Hid (Ge t U p tb mb room L live):=HG.out.low (((HE.out.trans HEU.out)).below HTw.out);have hCU:C3 U wr.heap.size 0 (x1,x2,x3):=by rw[← hU];exact C3.new wr (x1,x2,x3)
   obtain⟨d0,d1,d2⟩:=hCU;have hzU:w.heap.size+1≤U.heap.size:=Nat.le_trans hz gU.size;obtain⟨hf0,hf1,hw0,hw1⟩:=hAW;clear hdrop hc hTs HR gU;simp only[Nat.zero_add]at c0 c1 c2 d0 d1 d2 hf0 hf1 hw0 hw1;by_cases h2:x1=2
   ·subst h2;have HR3:Hid (doV live thr l s σ=thr s' x3 σ'):=(show _=_ by rw[HR2.out];rfl)
    clear HR2;rw[HR3.out];go_wp2_with (refine load_Sb rfl (.tmp 5) rfl w.heap.size s' rfl HSU.out ?_);refine(HT.out s' x3 v' σ' U HTU.out HGU.out hw0 hw1).mono ?_;rintro e w1 ⟨rfl,v2,T2,E2⟩;go_wp2_with fail;(try simp only[Exit.inBlock,Exit.then])
    refine bodyPost_ret (results_none rfl _ _ _) rfl ?_;exact⟨rfl,v2,T2,(HE.out.trans HEU.out).trans E2⟩
   ·by_cases h1:x1=1
    ·subst h1;have HR3:Hid (doV live thr l s σ=doV live thr (l.drop (k+1)) s' (leaveV live s' x3 σ'.1,σ'.2)):=(show _=_ by rw[HR2.out];rfl)
     clear HR2;go_wp2_with (refine load_Sb rfl (.tmp 5) rfl w.heap.size s' rfl HSU.out ?_);refine(leave_any t p v' σ'.1 σ'.2 live s' x3 U HTU.out HGU.out.ln HGU.out.lv HGU.out.le).mono ?_;rintro e w1 ⟨rfl,v2,T2,E2⟩;have HS1:Hid (Sb w1 w.heap.size s'):=HSU.out.block (E2.block (by omega) (by omega) Hv.out);have HT1:Hid (Tr w1 t p v2 (leaveV live s' x3 σ'.1) σ'.2):=T2;have HE1:Hid (Eff t v w v2 w1):=(HE.out.trans HEU.out).trans E2;have Hv1:Hid (v2.ownBlock≠some w.heap.size):=E2.apart (by omega) Hv.out;have hz1:w.heap.size+1≤w1.heap.size:=Nat.le_trans hzU E2.size;clear T2 E2;go_wp2_with fail;go_roundw;case rel=>exact⟨k+1,s',v2,(leaveV live s' x3 σ'.1,σ'.2),by omega,by go_num,HR3,HS1,HT1,HE1,Hv1,hz1⟩
     case measure=>simp[intOf];omega
    ·have b2:(x1==2)=false:=by simp[h2]
     have b1:(x1==1)=false:=by simp[h1]
     have HR3:Hid (doV live thr l s σ=doV live thr (l.drop (k+1)) (Fd.changeV s' (x1,x2,x3)) σ'):=(show _=_ by rw[HR2.out];show(if x1=2 then _ else if x1=1 then _ else _)=_;rw[if_neg h2,if_neg h1])
     clear HR2 h1 h2;have HC:Hid (Calls prog 84 #[Mt.snV s',.agg #[.int .i64 x1,.int .i64 x2,.int .u64 x3]] U fun x w'=>x=.returned (Mt.snV (Fd.changeV s' (x1,x2,x3)))∧Below U.heap.size U w'):=Fd.chg_any s' (x1,x2,x3) U ⟨hf0,hf1,hw0,hw1⟩;generalize Fd.changeV s' (x1,x2,x3)=s2 at *
     go_wp2_with (refine load_Sb rfl (.tmp 5) rfl w.heap.size s' rfl HSU.out ?_);refine HC.out.mono ?_;rintro e w1 ⟨rfl,g1⟩;have HS1:Hid (Sb w1 w.heap.size s'):=HSU.out.below (by omega) g1;have HT1:Hid (Tr w1 t p v' σ'.1 σ'.2):=HTU.out.below g1;have HE1:Hid (Eff t v w v' w1):=(HE.out.trans HEU.out).trans (Eff.of_below g1);have hz1:w.heap.size+1≤w1.heap.size:=Nat.le_trans hzU g1.size;clear g1;go_wp2_with (refine store_Sb rfl (.tmp 5) (.tmp 20) rfl w.heap.size s2 rfl rfl HS1.out.t ?_;intro X hX oX;have HS2:Hid (Sb X w.heap.size s2):=hX;have HT2:Hid (Tr X t p v' σ'.1 σ'.2):=HT1.out.only oX (by omega) Hv.out;have HE2:Hid (Eff t v w v' X):=HE1.out.only oX (Nat.le_refl _);have hz2:w.heap.size+1≤X.heap.size:=(by rw[oX.size];exact hz1);clear hX oX);go_roundw;case rel=>exact⟨k+1,s2,v',σ',by omega,by go_num,HR3,HS2,HT2,HE2,Hv,hz2⟩
     case measure=>simp[intOf];omega
  ·have hk':k=l.length:=by omega
   have HR3:Hid (doV live thr l s σ=σ'):=(show _=_ by rw[HR.out,hk',List.drop_length];rfl)
   clear HR;rw[HR3.out];go_wp2_with fail;go_end0;exact⟨rfl,v',HTr.out,HE.out⟩
theorem apply_any (t:Nat) (p:Tp) (tb mb:Nat) (room:Int) (L:List Gp.Gr) (live:List Bool) (thr:Mt.Sn→Int→St→St) (HT:Hid (ThrC t p tb mb room L live 0 thr))
 (a:Option Addr) (l:List A) (cap:Nat) (s:Mt.Sn) (v:Value) (σ:St) (w:World) (T:Tr w t p v σ.1 σ.2) (G:Ge t w p tb mb room L live) (hL:Ts w a l) (hA:Apt t v a l) (hW:AWs l) (hl:l.length≤1000) :
 Calls prog 41 #[.pointer (some ⟨t,0,none⟩),Mt.snV s,.slice a l.length cap] w fun e w'=>e=.returned (Mt.snV (appV live thr l s σ).1)∧∃ v',Tr w' t p v' (appV live thr l s σ).2.1 (appV live thr l s σ).2.2∧Eff t v w v' w':=by
 have htl:=T.lt;have HTw:Hid (Tr w t p v σ.1 σ.2):=T;have HG:Hid (Ge t w p tb mb room L live):=G;have HL:Hid (Ts w a l∧Apt t v a l∧AWs l):=(show _∧_ from⟨hL,hA,hW⟩)
 have hv0:v.ownBlock≠some w.heap.size∧v.ownBlock≠some (w.heap.size+1):=⟨fun e=>by have:=(T.own e).2;omega,fun e=>by have:=(T.own e).2;omega⟩
 obtain⟨V,hV⟩:∃ V,(w.alloc (.cells (Mt.snC s) 49)).alloc (.cells (Mt.snC Fd.sn0) 49)=V:=⟨_,rfl⟩
 have g0:Below w.heap.size w V:=by rw[← hV];go_grown
 have T0:Tr V t p v σ.1 σ.2:=T.below g0;have S0:Sb V w.heap.size s∧Sb V (w.heap.size+1) Fd.sn0:=by
  rw[← hV]
  refine⟨(Sb.new w s).below (B:=w.heap.size+1) (by omega) (by have e:(w.alloc (.cells (Mt.snC s) 49)).heap.size=w.heap.size+1:=by simp
                                                              rw[← e];go_grown),?_⟩
  have:=Sb.new (w.alloc (.cells (Mt.snC s) 49)) Fd.sn0;simpa using this
 have z0:w.heap.size+2≤V.heap.size:=by rw[← hV];simp
 have E0:Eff t v w v V:=Eff.of_below g0;have HV:Hid ((w.alloc (.cells (Mt.snC s) 49)).alloc (.cells #[.int .i64 0,.int .u64 0,.int .u64 0,.int .u64 0,.int .i64 0,.int .i64 0,.int .u32 0,.int .u32 0,.int .i64 0,.int .i64 0,.int .i64 0,.int .i64 0,.string ⟨#[]⟩] 49)=V):=hV;clear T G hL hA hW hV g0;go_enter func41,ntmps41;go_wp2_with fail;rw[HV.out]
 go_loopw [11] (fun i wr=>∃ (k:Nat) (s':Mt.Sn) (v':Value) (σ':St),k≤l.length∧i=.int .i64 k∧Hid (appV live thr l s σ=appV live thr (l.drop k) s' σ')∧Hid (Sb wr w.heap.size s'∧Sb wr (w.heap.size+1) Fd.sn0)∧Hid (Tr wr t p v' σ'.1 σ'.2)∧Hid (Eff t v w v' wr)∧Hid (v'.ownBlock≠some w.heap.size∧v'.ownBlock≠some (w.heap.size+1))∧w.heap.size+2≤wr.heap.size)
  (fun i _=>(l.length-(intOf i).toNat))
 case atStart=>exact⟨0,s,v,σ,Nat.zero_le _,rfl,(show _=_ from rfl),S0,T0,E0,hv0,z0⟩
 case round =>
  clear S0 T0 E0 z0 hv0;obtain⟨k,s',v',σ',hk,rfl,HR,HS,HTr,HE,Hv,hz⟩:=hrel;by_cases hlt:k<l.length
  ·have hTs:=(HL.out.1.eff HE.out HL.out.2.1)
   obtain⟨g,o,ha,hg,hc⟩:=hTs.at hlt;obtain⟨c0,c1,c2⟩:=hc k hlt;have hdrop:l.drop k=l[k]::l.drop (k+1):=List.drop_eq_getElem_cons hlt;have hAW:AW l[k]:=HL.out.2.2 _ (List.getElem_mem hlt);have HR2:Hid (appV live thr l s σ=appV live thr (l[k]::l.drop (k+1)) s' σ'):=(show _=_ by rw[HR.out,hdrop])
   have hltI:(k:Int)<(l.length:Int):=by omega
   generalize l[k]=x at *
   obtain⟨x1,x2,x3⟩:=x;subst ha;obtain⟨U,hU⟩:∃ U,wr.alloc (.cells #[.int .i64 x1,.int .i64 x2,.int .u64 x3] 95)=U:=⟨_,rfl⟩
   have gU:Below wr.heap.size wr U:=by rw[← hU];go_grown
   have HTU:Hid (Tr U t p v' σ'.1 σ'.2):=HTr.out.below gU;have HSU:Hid (Sb U w.heap.size s'∧Sb U (w.heap.size+1) Fd.sn0):=(show _∧_ from⟨HS.out.1.below (by omega) gU,HS.out.2.below (by omega) gU⟩)
   have HEU:Hid (Eff t v' wr v' U):=Eff.of_below gU;have HGU:Hid (Ge t U p tb mb room L live):=HG.out.low (((HE.out.trans HEU.out)).below HTw.out);have hCU:C3 U wr.heap.size 0 (x1,x2,x3):=by rw[← hU];exact C3.new wr (x1,x2,x3)
   obtain⟨d0,d1,d2⟩:=hCU;have hzU:w.heap.size+2≤U.heap.size:=Nat.le_trans hz gU.size;obtain⟨hf0,hf1,hw0,hw1⟩:=hAW;clear hdrop hc hTs HR gU;simp only[Nat.zero_add]at c0 c1 c2 d0 d1 d2 hf0 hf1 hw0 hw1;by_cases h1:x1=1
   ·subst h1;have HR3:Hid (appV live thr l s σ=appV live thr (l.drop (k+1)) s' (leaveV live s' x3 σ'.1,σ'.2)):=(show _=_ by rw[HR2.out];rfl)
    clear HR2;go_wp2_with (refine load_Sb rfl (.tmp 4) rfl w.heap.size s' rfl HSU.out.1 ?_);refine(leave_any t p v' σ'.1 σ'.2 live s' x3 U HTU.out HGU.out.ln HGU.out.lv HGU.out.le).mono ?_;rintro e w1 ⟨rfl,v2,T2,E2⟩;have HS1:Hid (Sb w1 w.heap.size s'∧Sb w1 (w.heap.size+1) Fd.sn0):=(show _∧_ from⟨HSU.out.1.block (E2.block (by omega) (by omega) Hv.out.1),HSU.out.2.block (E2.block (by omega) (by omega) Hv.out.2)⟩)
    have HT1:Hid (Tr w1 t p v2 (leaveV live s' x3 σ'.1) σ'.2):=T2;have HE1:Hid (Eff t v w v2 w1):=(HE.out.trans HEU.out).trans E2;have Hv1:Hid (v2.ownBlock≠some w.heap.size∧v2.ownBlock≠some (w.heap.size+1)):=(show _∧_ from⟨E2.apart (by omega) Hv.out.1,E2.apart (by omega) Hv.out.2⟩)
    have hz1:w.heap.size+2≤w1.heap.size:=Nat.le_trans hzU E2.size;clear T2 E2;go_wp2_with fail;go_roundw;case rel=>exact⟨k+1,s',v2,(leaveV live s' x3 σ'.1,σ'.2),by omega,by go_num,HR3,HS1,HT1,HE1,Hv1,hz1⟩
    case measure=>simp[intOf];omega
   ·by_cases h2:x1=2
    ·subst h2;have HR3:Hid (appV live thr l s σ=appV live thr (l.drop (k+1)) s' (thr s' x3 σ')):=(show _=_ by rw[HR2.out];rfl)
     clear HR2;go_wp2_with (refine load_Sb rfl (.tmp 4) rfl w.heap.size s' rfl HSU.out.1 ?_);refine(HT.out s' x3 v' σ' U HTU.out HGU.out hw0 hw1).mono ?_;rintro e w1 ⟨rfl,v2,T2,E2⟩;have HS1:Hid (Sb w1 w.heap.size s'∧Sb w1 (w.heap.size+1) Fd.sn0):=(show _∧_ from⟨HSU.out.1.block (E2.block (by omega) (by omega) Hv.out.1),HSU.out.2.block (E2.block (by omega) (by omega) Hv.out.2)⟩)
     have HT1:Hid (Tr w1 t p v2 (thr s' x3 σ').1 (thr s' x3 σ').2):=T2;have HE1:Hid (Eff t v w v2 w1):=(HE.out.trans HEU.out).trans E2;have Hv1:Hid (v2.ownBlock≠some w.heap.size∧v2.ownBlock≠some (w.heap.size+1)):=(show _∧_ from⟨E2.apart (by omega) Hv.out.1,E2.apart (by omega) Hv.out.2⟩)
     have hz1:w.heap.size+2≤w1.heap.size:=Nat.le_trans hzU E2.size;clear T2 E2;generalize thr s' x3 σ'=σ2 at *
     go_wp2_with fail;go_roundw;case rel=>exact⟨k+1,s',v2,σ2,by omega,by go_num,HR3,HS1,HT1,HE1,Hv1,hz1⟩
     case measure=>simp[intOf];omega
    ·have b2:(x1==2)=false:=by simp[h2]
     have b1:(x1==1)=false:=by simp[h1]
     have HR3:Hid (appV live thr l s σ=appV live thr (l.drop (k+1)) (Fd.changeV s' (x1,x2,x3)) σ'):=(show _=_ by rw[HR2.out];show(if x1=1 then _ else if x1=2 then _ else _)=_;rw[if_neg h1,if_neg h2])
     clear HR2 h1 h2;have HC:Hid (Calls prog 84 #[Mt.snV s',.agg #[.int .i64 x1,.int .i64 x2,.int .u64 x3]] U fun x w'=>x=.returned (Mt.snV (Fd.changeV s' (x1,x2,x3)))∧Below U.heap.size U w'):=Fd.chg_any s' (x1,x2,x3) U ⟨hf0,hf1,hw0,hw1⟩;generalize Fd.changeV s' (x1,x2,x3)=s2 at *
     go_wp2_with (refine load_Sb rfl (.tmp 4) rfl w.heap.size s' rfl HSU.out.1 ?_);refine HC.out.mono ?_;rintro e w1 ⟨rfl,g1⟩;have HS1:Hid (Sb w1 w.heap.size s'∧Sb w1 (w.heap.size+1) Fd.sn0):=(show _∧_ from⟨HSU.out.1.below (by omega) g1,HSU.out.2.below (by omega) g1⟩)
     have HT1:Hid (Tr w1 t p v' σ'.1 σ'.2):=HTU.out.below g1;have HE1:Hid (Eff t v w v' w1):=(HE.out.trans HEU.out).trans (Eff.of_below g1);have hz1:w.heap.size+2≤w1.heap.size:=Nat.le_trans hzU g1.size;clear g1;go_wp2_with (refine store_Sb rfl (.tmp 4) (.tmp 19) rfl w.heap.size s2 rfl rfl HS1.out.1.t ?_;intro X hX oX;have HS2:Hid (Sb X w.heap.size s2∧Sb X (w.heap.size+1) Fd.sn0):=(show _∧_ from⟨hX,HS1.out.2.block (oX.block _ (by omega))⟩);have HT2:Hid (Tr X t p v' σ'.1 σ'.2):=HT1.out.only oX (by omega) Hv.out.1;have HE2:Hid (Eff t v w v' X):=HE1.out.only oX (Nat.le_refl _);have hz2:w.heap.size+2≤X.heap.size:=(by rw[oX.size];exact hz1);clear hX oX);go_roundw;case rel=>exact⟨k+1,s2,v',σ',by omega,by go_num,HR3,HS2,HT2,HE2,Hv,hz2⟩
     case measure=>simp[intOf];omega
  ·have hk':k=l.length:=by omega
   have HR3:Hid (appV live thr l s σ=(s',σ')):=(show _=_ by rw[HR.out,hk',List.drop_length];rfl)
   clear HR;go_wp2_with (first|refine load_Sb rfl (.tmp 4) rfl w.heap.size s' rfl HS.out.1 ?_|(refine store_Sb rfl (.tmp 6) (.tmp 35) rfl (w.heap.size+1) s' rfl rfl HS.out.2.t ?_;intro X hX oX));(try simp only[Exit.inBlock,Exit.then])
   refine bodyPost_ret (v:=Mt.snV s') (resSb rfl rfl hX) rfl ?_;rw[HR3.out];exact⟨rfl,v',HTr.out.only oX (by omega) Hv.out.2,HE.out.only oX (by omega)⟩
open Gp
def Gp.Bk.bare (b:Bk):Bk:=bk0 b.b3
theorem bare_map (l:List Bk):(l.map Bk.b3).map bk0=l.map Bk.bare:=by rw[List.map_map];rfl
theorem map_bare (l:List Bk):(l.map Bk.bare).map Bk.b3=l.map Bk.b3:=by rw[List.map_map];rfl
theorem sumW_bare:∀ l:List Bk,sumW (l.map Bk.bare)=sumW l
 | []=>rfl
 | b::l=>by rw[List.map_cons,sumW,sumW,sumW_bare l];rfl
theorem goAt_bare:∀ (l:List Bk) (n:Int),goAt (l.map Bk.bare) n=(goAt l n).map Bk.bare
 | [],_=>rfl
 | b::l,n=>by
   rw[List.map_cons,goAt,goAt,goAt_bare l];have e:b.bare.we=b.we:=rfl;rw[e];split<;>rfl
theorem atL_bare (l:List Bk) (n:Int):atL (l.map Bk.bare) n=(atL l n).map Bk.bare:=by
 unfold atL;by_cases h:l=[]
 ·subst h;rfl
 ·rw[if_neg h,if_neg (by simpa using h),sumW_bare,goAt_bare]
theorem pickL_bare (l:List Bk) (n:Int):pickL (l.map Bk.bare) n=(pickL l n).map Bk.bare:=by
 unfold pickL;split
 ·rw[← List.map_reverse,atL_bare]
 ·exact atL_bare l n
theorem chooseL_bare (k:Int) (l:List Bk) (live:List Bool) (n:Int):chooseL k (l.map Bk.bare) live n=(chooseL k l live n).map Bk.bare:=by
 have f1:∀ m:List Bk,(m.map Bk.bare).filter (fun b=>alvB live b.wa)=(m.filter fun b=>alvB live b.wa).map Bk.bare:=fun m=>by rw[List.filter_map];rfl
 have f2:∀ m:List Bk,(m.map Bk.bare).filter (fun b=>decide (0<b.we))=(m.filter fun b=>decide (0<b.we)).map Bk.bare:=fun m=>by rw[List.filter_map];rfl
 unfold chooseL;split
 ·rfl
 ·split
  ·rw[f1,List.map_take]
  ·split
   ·rw[f1,f2,pickL_bare]
   ·rfl
theorem choose_b3 (k:Int) (l:List Bk) (live:List Bool) (n:Int):(chooseL k l live n).map Bk.b3=chooseV k (l.map Bk.b3) live n:=by
 unfold chooseV;rw[bare_map,chooseL_bare,map_bare]
theorem chooseV_mem {k:Int} {l:List B3} {live:List Bool} {n:Int} {b:B3} (h:b∈chooseV k l live n):b∈l:=by
 unfold chooseV at h;obtain⟨x,hx,rfl⟩:=List.mem_map.1 h;obtain⟨y,hy,rfl⟩:=List.mem_map.1 (chooseL_mem hx);exact hy
theorem goAt_len:∀ (l:List Bk) (n:Int),(goAt l n).length≤l.length
 | [],_=>Nat.le_refl _
 | b::l,n=>by
   rw[goAt];split
   ·simp
   ·exact Nat.le_trans (goAt_len l _) (by simp)
theorem atL_len (l:List Bk) (n:Int):(atL l n).length≤l.length:=by
 unfold atL;split
 ·simp
 ·exact goAt_len _ _
theorem chooseV_len (k:Int) (l:List B3) (live:List Bool) (n:Int):(chooseV k l live n).length≤l.length:=by
 have f1:∀ m:List Bk,(m.filter fun b=>alvB live b.wa).length≤m.length:=fun m=>List.length_filter_le _ _;have f2:∀ m:List Bk,(m.filter fun b=>decide (0<b.we)).length≤m.length:=fun m=>List.length_filter_le _ _;unfold chooseV chooseL;rw[List.length_map];have e:(l.map bk0).length=l.length:=List.length_map ..;rw[← e];split
 ·exact Nat.le_refl _
 ·split
  ·exact Nat.le_trans (by rw[List.length_take];exact Nat.min_le_right _ _) (f1 _)
  ·split
   ·unfold pickL;split
    ·exact Nat.le_trans (atL_len _ _) (by rw[List.length_reverse];exact Nat.le_trans (f2 _) (f1 _))
    ·exact Nat.le_trans (atL_len _ _) (Nat.le_trans (f2 _) (f1 _))
   ·exact Nat.zero_le _
theorem aw_right {a:A} (h:rightB a=true):AW a:=by
 have hl:∀ f:Int,0≤leastV f:=fun f=>by unfold leastV;split<;>omega
 rcases right_cases h with⟨h1,h2,h3,h4⟩|⟨h1,h2,h3,h4⟩|⟨h1,h2,h3⟩|⟨h1,h2,h3⟩|⟨h1,h2,h3,h4⟩
 ·exact⟨by omega,by omega,by omega,by omega⟩
 ·exact⟨by omega,by omega,by omega,by omega⟩
 ·exact⟨by omega,by omega,by omega,by omega⟩
 ·exact⟨by omega,by omega,by omega,by omega⟩
 ·have g:=grV_lt a.2.1;have:=hl a.2.1;exact⟨by omega,by omega,by omega,by omega⟩
theorem aws_right {l:List A} (h:allB l=true):AWs l:=fun a ha=>aw_right (List.all_eq_true.1 h a ha)
theorem right_bks {p:G3} (h:rightE p=0):∀ b∈p.2.2,b.2.2.length≤8∧b.2.1≤65535∧allB b.2.2=true:=by
 intro b hb;unfold rightE at h;split at h
 ·rename_i h1;split at h
  ·rename_i h2;unfold formB at h1;simp only[Bool.and_eq_true,List.all_eq_true]at h1;have h3:=h1.2 b hb;unfold bkB at h3;simp only[Bool.and_eq_true,decide_eq_true_eq]at h3;have h4:inB b.2.1 0 65535=true:=h3.2;unfold inB at h4;simp only[Bool.and_eq_true,decide_eq_true_eq]at h4;refine⟨by omega,h4.2,?_⟩;unfold actsB at h2;exact List.all_eq_true.1 h2 b hb
  ·omega
 ·omega
def getV (G:List G3) (i:Int):Option G3:=G.find? (fun g=>decide (g.1=i))
theorem get_none {L:List Gr} {i:Int} (h:hasP L i=false):getV (L.map Gr.p) i=none:=by
 unfold getV;rw[List.find?_eq_none];intro x hx;obtain⟨g,hg,rfl⟩:=List.mem_map.1 hx;unfold hasP at h;have:=List.any_eq_false.1 h g hg;exact this
theorem get_some {L:List Gr} {i:Int} {g:Gr} (hs:SrtG L) (hg:g∈L) (hi:g.id=i):getV (L.map Gr.p) i=some g.p:=by
 unfold getV;induction L with
 | nil=>cases hg
 | cons x r ih =>
   rw[List.map_cons,List.find?_cons];have hp:=List.pairwise_cons.1 hs;by_cases he:x.id=i
   ·have e:decide ((Gr.p x).1=i)=true:=decide_eq_true he;rw[e];rcases List.mem_cons.1 hg with rfl|hg'
    ·rfl
    ·have:=hp.1 g hg';omega
   ·have e:decide ((Gr.p x).1=i)=false:=decide_eq_false he;rw[e];rcases List.mem_cons.1 hg with rfl|hg'
    ·exact absurd hi he
    ·exact ih hp.2 hg'
theorem thrV_succ (G:List G3) (live:List Bool) (pick:Int) (k:Nat) (s:Mt.Sn) (id:Int) (σ:St):thrV G live pick (k+1) s id σ=match getV G (IntKind.i64.wrap id)with
 | none=>σ
 | some g=>bksV (fun l=>doV live (thrV G live pick k) l s) (chooseV g.2.1 g.2.2 live pick) σ:=rfl
end Go.Proofs.YtgnihbdcdefdgaaGreatDoor

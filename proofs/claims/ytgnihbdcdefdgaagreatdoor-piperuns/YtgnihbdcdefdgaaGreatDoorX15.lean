import Derived.Test.YtgnihbdcdefdgaaGreatDoorX14
import Derived.Test.YtgnihbdcdefdgaaGreatDoorX09
import Derived.Deep.RegionWith
import Derived.Deep.RegionHeld
import Derived.Lib.SliceRun
import Derived.Test.YtgnihbdcdefdgaaGreatDoorX02
import Derived.Laws.AppendOwn
import Derived.Laws.OwnMore
import Derived.Lib.AppendZeros
import Derived.Deep.Upon
set_option maxHeartbeats 4000000
set_option linter.unusedVariables false
open Go.ChangeShapes Go.WideShapes Go.ChangeAt Go.RowKit
open Go.Proofs.Tryz
namespace Go.Proofs.YtgnihbdcdefdgaaGreatDoor
structure Sp where
 tab:Int
 la:List A
 lw:List A
 clr:Bool
 mt:Int
 mm:Int
 met:Int
 go:Int
structure En where
 tab:Int
 pri:Int
 ta:Option Addr
 tl:Nat
 tc:Nat
 aa:Option Addr
 la:List A
 ca:Nat
 aw:Option Addr
 lw:List A
 cw:Nat
 clr:Bool
 mt:Int
 mm:Int
 met:Int
 go:Int
def En.sp (x:En):Sp:=⟨x.tab,x.la,x.lw,x.clr,x.mt,x.mm,x.met,x.go⟩
abbrev enV (x:En):Value:=.agg #[.int .i64 x.tab,.int .i64 x.pri,.slice x.ta x.tl x.tc,.slice x.aa x.la.length x.ca,.slice x.aw x.lw.length x.cw,.bool x.clr,.int .u64 x.mt,.int .u64 x.mm,.int .i64 x.met,.int .i64 x.go]
abbrev enC (x:En):Array Value:=#[.int .i64 x.tab,.int .i64 x.pri,.slice x.ta x.tl x.tc,.slice x.aa x.la.length x.ca,.slice x.aw x.lw.length x.cw,.bool x.clr,.int .u64 x.mt,.int .u64 x.mm,.int .i64 x.met,.int .i64 x.go]
abbrev ex (w:World) (x:En):World:=w.alloc (.cells (enC x) 76)
abbrev Bn (w:World) (b:Nat) (x:En):Prop :=
 w.cell? ⟨b,0,none⟩=some (.int .i64 x.tab)∧w.cell? ⟨b,1,none⟩=some (.int .i64 x.pri)∧w.cell? ⟨b,2,none⟩=some (.slice x.ta x.tl x.tc)∧w.cell? ⟨b,3,none⟩=some (.slice x.aa x.la.length x.ca)∧w.cell? ⟨b,4,none⟩=some (.slice x.aw x.lw.length x.cw)∧w.cell? ⟨b,5,none⟩=some (.bool x.clr)∧w.cell? ⟨b,6,none⟩=some (.int .u64 x.mt)∧w.cell? ⟨b,7,none⟩=some (.int .u64 x.mm)∧w.cell? ⟨b,8,none⟩=some (.int .i64 x.met)∧w.cell? ⟨b,9,none⟩=some (.int .i64 x.go)
theorem Bn.new (w:World) (x:En):Bn (ex w x) w.heap.size x:=by unfold Bn ex;simp
theorem Bn.block {w w':World} {b:Nat} {x:En} (h:Bn w b x) (g:w'.heap[b]? = w.heap[b]?):Bn w' b x:=by
 obtain⟨h0,h1,h2,h3,h4,h5,h6,h7,h8,h9⟩:=h;have e:∀ o,w'.cell? ⟨b,o,none⟩=w.cell? ⟨b,o,none⟩:=fun o=>World.cell?_of_block (w:=w) g;exact⟨(e _).trans h0,(e _).trans h1,(e _).trans h2,(e _).trans h3,(e _).trans h4,(e _).trans h5,(e _).trans h6,(e _).trans h7,(e _).trans h8,(e _).trans h9⟩
theorem Bn.below {w w':World} {b B:Nat} {x:En} (h:Bn w b x) (hb:b<B) (g:Below B w w'):Bn w' b x:=h.block (g.block b hb)
theorem Bn.gr {W:World} {b:Nat} {x:En} (h:Bn W b x) (hb:b<W.heap.size) (n:GrT W):Bn n.w b x:=h.below hb n.h
structure EW (w:World) (x:En):Prop where
 a:Ts w x.aa x.la
 w:Ts w x.aw x.lw
 na:x.la.length≤9223372036854775807
 nw:x.lw.length≤9223372036854775807
theorem EW.below {w w':World} {x:En} (h:EW w x) (g:Below w.heap.size w w'):EW w' x:=⟨h.a.below g,h.w.below g,h.na,h.nw⟩
theorem EW.alloc {w:World} {x:En} (h:EW w x) (o:Obj):EW (w.alloc o) x:=h.below (by go_grown)
def tabB (n:Int):Bool:=decide (0≤n)&&decide (n<8)
def goB (f t:Int):Bool:=t==0||(decide (f<t)&&tabB t)
def metB (n:Int):Bool:=decide (n<0)||decide (16<n)
def rightX (s:Sp):Int :=
 if tabB s.tab=false then 26 else if encodeE s.la≠0 then encodeE s.la else if encodeE s.lw≠0 then encodeE s.lw
 else if metB s.met=true then 25 else if bits .andNot .u64 s.mt s.mm≠0 then 23 else if goB s.tab s.go=false then 23 else 0
theorem isTable_any (n:Int) (w:World):Calls prog 129 #[.int .i64 n] w fun e w'=>e=.returned (.bool (tabB n))∧w'=w:=by
 unfold tabB;by_cases h1:0≤n<;>by_cases h2:n<8 <;>
 ·go_enter func129,ntmps129;go_wp2;go_ret;simp[h1,h2]
theorem mayGo_any (f t:Int) (w:World):Calls prog 131 #[.int .i64 f,.int .i64 t] w fun e w'=>e=.returned (.bool (goB f t))∧w'=w:=by
 have HT:Hid (∀ w,Calls prog 129 #[.int .i64 t] w fun e w'=>e=.returned (.bool (tabB t))∧w'=w):=(show ∀ w,_ from fun w=>isTable_any t w)
 unfold goB;cases h0:(t==0)with
 | true =>
   go_enter func131,ntmps131;go_wp2_with fail;go_ret;exact⟨rfl,rfl⟩
 | false =>
   cases h1:decide (f<t)with
   | false =>
     go_enter func131,ntmps131;go_wp2_with fail;go_ret;exact⟨rfl,rfl⟩
   | true =>
     generalize tabB t=B at *
     go_enter func131,ntmps131;go_wp2_with fail;refine(HT.out _).mono ?_;rintro r w1 ⟨rfl,rfl⟩;go_wp2_with fail;go_ret;exact⟨rfl,rfl⟩
theorem rightX_any (x:En) (w:World) (h:EW w x) (hd:Cd w):Calls prog 89 #[enV x] w fun e w'=>e=.returned (.int .i64 (rightX x.sp))∧Below w.heap.size w w':=by
 have HT:Hid (∀ w,Calls prog 129 #[.int .i64 x.tab] w fun e w'=>e=.returned (.bool (tabB x.tab))∧w'=w):=(show ∀ w,_ from fun w=>isTable_any _ w)
 have HG:Hid (∀ w,Calls prog 131 #[.int .i64 x.tab,.int .i64 x.go] w fun e w'=>e=.returned (.bool (goB x.tab x.go))∧w'=w):=(show ∀ w,_ from fun w=>mayGo_any _ _ w)
 have H1:Hid (Calls prog 130 #[.slice x.aa x.la.length x.ca] (ex w x) fun e w'=>e=.returned (.tuple #[.string (encodeS x.la),.int .i64 (encodeE x.la)])∧Below (w.heap.size+1) (ex w x) w'):=(show Calls _ _ _ _ _ from by
  have:=encode_any x.aa x.la x.ca (ex w x) (h.a.alloc _) h.na (hd.alloc _);simpa using this)
 have H2:Hid (∀ w1,Below (w.heap.size+1) (ex w x) w1→Calls prog 130 #[.slice x.aw x.lw.length x.cw] w1 fun e w'=>e=.returned (.tuple #[.string (encodeS x.lw),.int .i64 (encodeE x.lw)])∧Below w1.heap.size w1 w'):=(show ∀ w1,_ from fun w1 g=>by
  have g':Below (ex w x).heap.size (ex w x) w1:=by simpa using g
  exact encode_any x.aw x.lw x.cw w1 ((h.w.alloc _).below g') h.nw ((hd.alloc _).below g'))
 have HB:Hid (∀ w1,Below (w.heap.size+1) (ex w x) w1→Bn w1 w.heap.size x):=(show ∀ w1,_ from fun w1 g=>(Bn.new w x).below (by omega) g)
 have HC:Hid (∀ w1,Below (w.heap.size+1) (ex w x) w1→Below w.heap.size w w1):=(show ∀ w1,_ from fun w1 g=>(show Below w.heap.size w (ex w x)by go_grown).trans (g.mono (by omega)))
 have HR:Hid (rightX x.sp=if tabB x.tab=false then 26 else if encodeE x.la≠0 then encodeE x.la else if encodeE x.lw≠0 then encodeE x.lw
  else if metB x.met=true then 25 else if bits .andNot .u64 x.mt x.mm≠0 then 23 else if goB x.tab x.go=false then 23 else 0):=(show _=_ from rfl)
 clear h hd;cases ht:tabB x.tab with
 | false =>
   rw[HR.out,if_pos ht];rw[ht]at HT;clear HR;go_enter func89,ntmps89;go_wp2_with fail;refine(HT.out _).mono ?_;rintro r w1 ⟨rfl,rfl⟩;go_wp2_with fail;go_ret;exact⟨rfl,by go_grown⟩
 | true =>
   rw[HR.out,if_neg (by rw[ht];decide)];rw[ht]at HT;clear HR ht;by_cases ha:encodeE x.la=0
   ·rw[if_neg (by simpa using ha)];by_cases hw:encodeE x.lw=0
    ·rw[if_neg (by simpa using hw)];rw[ha]at H1;rw[hw]at H2;clear ha hw;generalize encodeS x.la=S1 at *
     generalize encodeS x.lw=S2 at *
     cases hm:metB x.met with
     | true =>
       rw[if_pos rfl];have hm':(x.met<0)∨¬ (x.met<0)∧(16<x.met):=by unfold metB at hm;simp at hm;omega
       clear hm;rcases hm' with hm'|⟨hm',hm2⟩
       all_goals
        go_enter func89,ntmps89;go_wp2_with fail;refine(HT.out _).mono ?_;rintro r w1 ⟨rfl,rfl⟩;go_wp2_with fail;refine H1.out.mono ?_;rintro r w1 ⟨rfl,g1⟩;obtain⟨c0,c1,c2,c3,c4,c5,c6,c7,c8,c9⟩:=HB.out _ g1;go_wp2_with fail;refine(H2.out _ g1).mono ?_;rintro r w2 ⟨rfl,g2'⟩;have g2:Below (w.heap.size+1) (ex w x) w2:=btr g1 g2' (by simp);clear c0 c1 c2 c3 c4 c5 c6 c7 c8 c9 g1 g2';obtain⟨c0,c1,c2,c3,c4,c5,c6,c7,c8,c9⟩:=HB.out _ g2;go_wp2_with fail;go_ret;exact⟨rfl,HC.out _ g2⟩
     | false =>
       rw[if_neg (by decide)];have hm1 : ¬ (x.met<0):=by unfold metB at hm;simp at hm;omega
       have hm2 : ¬ (16<x.met):=by unfold metB at hm;simp at hm;omega
       clear hm;by_cases hb:bits .andNot .u64 x.mt x.mm=0
       ·rw[if_neg (by simpa using hb)];have hb':(bits .andNot .u64 x.mt x.mm != 0)=false:=by simpa using hb
        clear hb;cases hg:goB x.tab x.go with
        | false =>
          rw[if_pos rfl];rw[hg]at HG;clear hg;go_enter func89,ntmps89;go_wp2_with fail;refine(HT.out _).mono ?_;rintro r w1 ⟨rfl,rfl⟩;go_wp2_with fail;refine H1.out.mono ?_;rintro r w1 ⟨rfl,g1⟩;obtain⟨c0,c1,c2,c3,c4,c5,c6,c7,c8,c9⟩:=HB.out _ g1;go_wp2_with fail;refine(H2.out _ g1).mono ?_;rintro r w2 ⟨rfl,g2'⟩;have g2:Below (w.heap.size+1) (ex w x) w2:=btr g1 g2' (by simp);clear c0 c1 c2 c3 c4 c5 c6 c7 c8 c9 g1 g2';obtain⟨c0,c1,c2,c3,c4,c5,c6,c7,c8,c9⟩:=HB.out _ g2;go_wp2_with fail;refine(HG.out _).mono ?_;rintro r w1 ⟨rfl,rfl⟩;go_wp2_with fail;go_ret;exact⟨rfl,HC.out _ g2⟩
        | true =>
          rw[if_neg (by decide)];rw[hg]at HG;clear hg;go_enter func89,ntmps89;go_wp2_with fail;refine(HT.out _).mono ?_;rintro r w1 ⟨rfl,rfl⟩;go_wp2_with fail;refine H1.out.mono ?_;rintro r w1 ⟨rfl,g1⟩;obtain⟨c0,c1,c2,c3,c4,c5,c6,c7,c8,c9⟩:=HB.out _ g1;go_wp2_with fail;refine(H2.out _ g1).mono ?_;rintro r w2 ⟨rfl,g2'⟩;have g2:Below (w.heap.size+1) (ex w x) w2:=btr g1 g2' (by simp);clear c0 c1 c2 c3 c4 c5 c6 c7 c8 c9 g1 g2';obtain⟨c0,c1,c2,c3,c4,c5,c6,c7,c8,c9⟩:=HB.out _ g2;go_wp2_with fail;refine(HG.out _).mono ?_;rintro r w1 ⟨rfl,rfl⟩;go_wp2_with fail;go_ret;exact⟨rfl,HC.out _ g2⟩
       ·rw[if_pos (by simpa using hb)];have hb':(bits .andNot .u64 x.mt x.mm != 0)=true:=by simpa using hb
        clear hb;go_enter func89,ntmps89;go_wp2_with fail;refine(HT.out _).mono ?_;rintro r w1 ⟨rfl,rfl⟩;go_wp2_with fail;refine H1.out.mono ?_;rintro r w1 ⟨rfl,g1⟩;obtain⟨c0,c1,c2,c3,c4,c5,c6,c7,c8,c9⟩:=HB.out _ g1;go_wp2_with fail;refine(H2.out _ g1).mono ?_;rintro r w2 ⟨rfl,g2'⟩;have g2:Below (w.heap.size+1) (ex w x) w2:=btr g1 g2' (by simp);clear c0 c1 c2 c3 c4 c5 c6 c7 c8 c9 g1 g2';obtain⟨c0,c1,c2,c3,c4,c5,c6,c7,c8,c9⟩:=HB.out _ g2;go_wp2_with fail;go_ret;exact⟨rfl,HC.out _ g2⟩
    ·rw[if_pos (by simpa using hw)];have hw':(encodeE x.lw != 0)=true:=by simpa using hw
     rw[ha]at H1;clear ha hw;generalize encodeS x.la=S1 at *
     generalize encodeS x.lw=S2 at *
     generalize encodeE x.lw=E2 at *
     go_enter func89,ntmps89;go_wp2_with fail;refine(HT.out _).mono ?_;rintro r w1 ⟨rfl,rfl⟩;go_wp2_with fail;refine H1.out.mono ?_;rintro r w1 ⟨rfl,g1⟩;obtain⟨c0,c1,c2,c3,c4,c5,c6,c7,c8,c9⟩:=HB.out _ g1;go_wp2_with fail;refine(H2.out _ g1).mono ?_;rintro r w2 ⟨rfl,g2'⟩;have g2:Below (w.heap.size+1) (ex w x) w2:=btr g1 g2' (by simp);go_wp2_with fail;go_ret;exact⟨rfl,HC.out _ g2⟩
   ·rw[if_pos (by simpa using ha)];have ha':(encodeE x.la != 0)=true:=by simpa using ha
    clear ha;generalize encodeS x.la=S1 at *
    generalize encodeE x.la=E1 at *
    go_enter func89,ntmps89;go_wp2_with fail;refine(HT.out _).mono ?_;rintro r w1 ⟨rfl,rfl⟩;go_wp2_with fail;refine H1.out.mono ?_;rintro r w1 ⟨rfl,g1⟩;go_wp2_with fail;go_ret;exact⟨rfl,HC.out _ g1⟩
theorem cloneA (a:Option Addr) (l:List A) (c:Nat) (w:World) (hT:Ts w a l) (hn:l.length≤1000) :
 Calls prog 86 #[.slice a l.length c] w fun e w'=>∃ a' c',e=.returned (.slice a' l.length c')∧l.length≤c'∧TsF w.heap.size w' a' l∧Below w.heap.size w w':=by
 have q:∀ (w:World) (a:Option Addr) (n c n' c':Nat),(binOp .eql 63 (.slice a n c) (.slice none n' c')).run prog w=.ok (.bool a.isNone) w:=fun w a n c n' c'=>Lib.run_eql_slice_nil w _ _ a n c n' c' underlying63;cases a with
 | none =>
   have hl:l=[]:=by
    rcases hT with h|⟨g,o,h,_⟩
    ·exact h
    ·cases h
   subst hl;clear hT;go_enter func86,ntmps86;go_wp2;go_ret;exact⟨none,0,rfl,Nat.le_refl _,.inl rfl,Below.refl _ _⟩
 | some p =>
   have HT:Hid (Ts w (some p) l):=hT;clear hT;go_enter func86,ntmps86;go_wp2_with (at_builtin;refine wpList_app rfl _ _ rfl w.heap.size (.slice (some ⟨w.heap.size,0,none⟩) 0 0) 0 [] rfl (World.ownsRow_made w #[] 0 (Nat.le_refl _) (Nat.zero_le _) rfl) (some p) c l l.length rfl rfl (HT.out.alloc _) (by omega) (by simp) ?_;intro v' w1 hown hgrow);go_wp2;go_ret;rw[Nat.zero_add,List.nil_append]at hown;obtain⟨a',c',e,hcap,ht⟩:=own_ts hown;exact⟨a',c',by rw[e];rfl,hcap,ht,((Below.refl _ w).alloc (Nat.le_refl _) _).grown hgrow (by simp) (by intro k hk;simp[Value.ownBlock]at hk;omega)⟩
namespace Mt
def clashT (t u:T):Bool:=(u.1==t.1)&&(bits .and .u64 (bits .and .u64 (bits .xor .u64 u.2.1 t.2.1) u.2.2) t.2.2 != 0)
def sameB (a b:List T):Bool:=decide (a=b)
def meetsB (a b:List T):Bool:=a.all fun t=>b.all fun u=>!clashT t u
theorem all_snoc (l:List T) (p:T→Bool) (k:Nat) (h:k<l.length):(l.take (k+1)).all p=((l.take k).all p&&p l[k]):=by
 rw[take_snoc_get l k h,List.all_append,List.all_cons,List.all_nil,Bool.and_true]
theorem all_of_take (l:List T) (p:T→Bool) (k:Nat) (h:(l.take k).all p=false):l.all p=false:=by
 rw[List.all_eq_false]at h ⊢;obtain⟨x,hx,hp⟩:=h;exact⟨x,List.mem_of_mem_take hx,hp⟩
theorem C3.allocd {w:World} {b o:Nat} {t:T} (h:C3 w b o t) (hb:b<w.heap.size) (x:Obj):C3 (w.alloc x) b o t:=h.below hb (show Below w.heap.size w (w.alloc x)by go_grown)
theorem equal_any (a1:Option Addr) (l:List T) (cap1:Nat) (a2:Option Addr) (b:List T) (cap2:Nat) (w:World) (h:Ts w a1 l) (hl:l.length≤100000) (h2:Ts w a2 b) (hl2:b.length≤100000) :
 Calls prog 133 #[.slice a1 l.length cap1,.slice a2 b.length cap2] w fun e w'=>e=.returned (.bool (sameB l b))∧Below w.heap.size w w':=by
 have hE:=neT;have hG:=guT;by_cases hq:l.length=b.length
 ·have hne:((l.length:Int) != (b.length:Int))=false:=by simp[hq]
  go_enter func133,ntmps133;go_wp2;go_loopw [13] (fun i wr=>∃ k:Nat,k≤l.length∧i=.int .i64 k∧l.take k=b.take k∧Below w.heap.size w wr) (fun i _=>l.length-(intOf i).toNat);case atStart=>exact⟨0,by omega,rfl,by simp,Below.refl _ _⟩
  case round =>
   obtain⟨k,hk,rfl,hn,hbel⟩:=hrel;by_cases hlt:k<l.length
   ·have hlt2:k<b.length:=by omega
    have hT:=h.below hbel;have hT2:=h2.below hbel;obtain⟨g,o,rfl,hg,hc⟩:=hT.at hlt;obtain⟨g2,o2,rfl,hg2,hc2⟩:=hT2.at hlt2;obtain⟨c0,c1,c2⟩:=hc k hlt;obtain⟨d0,d1,d2⟩:=hc2 k hlt2;go_wp2;go_quiet (fail);by_cases he:l[k]=b[k]
    ·have hd:eqB l[k] b[k]=true:=eqB_true.2 he;have HE:Hid (l.take (k+1)=b.take (k+1)):=(show _=_ by rw[take_snoc_get l k hlt,take_snoc_get b k hlt2,hn,he])
     clear he;rw[hd];go_wp2;go_roundw;case rel=>exact⟨k+1,by omega,by go_num,HE.out,bdr hbel _⟩
     case measure=>simp[intOf];omega
    ·have hd:eqB l[k] b[k]=false:=eqB_false.2 he;have HE:Hid (sameB l b=false):=(show _=_ by
      unfold sameB;rw[decide_eq_false_iff_not];intro hh;apply he;subst hh;rfl)
     clear he;rw[hd];go_wp2;go_ret;exact⟨by rw[HE.out];rfl,bdr hbel _⟩
   ·have hk':k=l.length:=by omega
    subst hk';rw[List.take_length,hq,List.take_length]at hn;have e:sameB l b=true:=by unfold sameB;exact decide_eq_true hn
    go_wp2;go_ret;exact⟨by rw[e];rfl,hbel⟩
 ·have hne:((l.length:Int) != (b.length:Int))=true:=by simp;omega
  have e:sameB l b=false:=by
   unfold sameB;rw[decide_eq_false_iff_not];intro hh;exact hq (by rw[hh])
  rw[e];go_enter func133,ntmps133;go_wp2;go_ret;exact⟨rfl,Below.refl _ _⟩
theorem same_any (a1:Option Addr) (l:List T) (cap1:Nat) (a2:Option Addr) (b:List T) (cap2:Nat) (w:World) (h:Ts w a1 l) (hl:l.length≤100000) (h2:Ts w a2 b) (hl2:b.length≤100000) :
 Calls prog 91 #[.slice a1 l.length cap1,.slice a2 b.length cap2] w fun e w'=>e=.returned (.bool (sameB l b))∧Below w.heap.size w w':=by
 have H:Hid (Calls prog 133 #[.slice a1 l.length cap1,.slice a2 b.length cap2] w fun e w'=>e=.returned (.bool (sameB l b))∧Below w.heap.size w w'):=equal_any a1 l cap1 a2 b cap2 w h hl h2 hl2;generalize sameB l b=v at *
 go_enter func91,ntmps91;go_wp2_with fail;refine H.out.mono ?_;rintro x w1 ⟨rfl,g1⟩;go_wp2_with fail;go_ret;exact⟨rfl,g1⟩
theorem agrees_any (t:T) (a:Option Addr) (l:List T) (cap:Nat) (w:World) (h:Ts w a l) (hl:l.length≤100000) :
 Calls prog 134 #[tV t,.slice a l.length cap] w fun e w'=>e=.returned (.bool (l.all (fun u=>!clashT t u)))∧Below w.heap.size w w':=by
 go_enter func134,ntmps134;go_wp2;go_loopw [9] (fun i wr=>∃ k:Nat,k≤l.length∧i=.int .i64 k∧(l.take k).all (fun u=>!clashT t u)=true∧C3 wr w.heap.size 0 t∧w.heap.size<wr.heap.size∧Below w.heap.size w wr) (fun i _=>l.length-(intOf i).toNat);case atStart=>exact⟨0,by omega,rfl,by simp,C3.new w t,by simp,by go_grown⟩
 case round =>
  obtain⟨k,hk,rfl,hn,hb,hsz,hbel⟩:=hrel;by_cases hlt:k<l.length
  ·have hT:=h.below hbel;obtain⟨g,o,rfl,hg,hc⟩:=hT.at hlt;obtain⟨c0,c1,c2⟩:=hc k hlt;have hb':=hb.allocd hsz (.cells (tC l[k]) 168);obtain⟨b0,b1,b2⟩:=hb';have hs:=all_snoc l ((fun u=>!clashT t u)) k hlt;rw[hn]at hs;have HB:Hid (C3 (tx wr l[k]) w.heap.size 0 t):=hb.allocd hsz _;have hbel2:=hbel.alloc hbel.size (.cells (tC l[k]) 168);cases f1:(l[k].1==t.1)
   ·have HE:Hid ((l.take (k+1)).all (fun u=>!clashT t u)=true):=(show _=_ by rw[hs];simp[clashT,f1])
    clear hs;go_wp2;go_roundw;case rel=>exact⟨k+1,by omega,by go_num,HE.out,HB.out,by simp;omega,hbel2⟩
    case measure=>simp[intOf];omega
   ·skip
    cases f2:(bits .and .u64 (bits .and .u64 (bits .xor .u64 l[k].2.1 t.2.1) l[k].2.2) t.2.2 != 0)
    ·have HE:Hid ((l.take (k+1)).all (fun u=>!clashT t u)=true):=(show _=_ by rw[hs];simp[clashT,f1,f2])
     clear hs;go_wp2;go_roundw;case rel=>exact⟨k+1,by omega,by go_num,HE.out,HB.out,by simp;omega,hbel2⟩
     case measure=>simp[intOf];omega
    ·have HE:Hid (l.all (fun u=>!clashT t u)=false):=(show _=_ from all_of_take l _ (k+1) (by rw[hs];simp[clashT,f1,f2]))
     clear hs;go_wp2;go_ret;exact⟨by rw[HE.out];rfl,hbel2⟩
  ·have hk':k=l.length:=by omega
   subst hk';rw[List.take_length]at hn;go_wp2;go_ret;exact⟨by rw[hn];rfl,hbel⟩
theorem meets_any (a1:Option Addr) (l:List T) (cap1:Nat) (a2:Option Addr) (b:List T) (cap2:Nat) (w:World) (h:Ts w a1 l) (hl:l.length≤100000) (h2:Ts w a2 b) (hl2:b.length≤100000) :
 Calls prog 94 #[.slice a1 l.length cap1,.slice a2 b.length cap2] w fun e w'=>e=.returned (.bool (meetsB l b))∧Below w.heap.size w w':=by
 have HI:Hid (∀ t v w,(b.all fun u=>!clashT t u)=v→Ts w a2 b→Calls prog 134 #[tV t,.slice a2 b.length cap2] w fun e w'=>e=.returned (.bool v)∧Below w.heap.size w w'):=fun t v w hv h=>hv ▸ agrees_any t a2 b cap2 w h hl2;unfold meetsB;go_enter func94,ntmps94;go_wp2;go_loopw [9] (fun i wr=>∃ k:Nat,k≤l.length∧i=.int .i64 k∧(l.take k).all (fun t=>b.all fun u=>!clashT t u)=true∧Below w.heap.size w wr) (fun i _=>l.length-(intOf i).toNat);case atStart=>exact⟨0,by omega,rfl,by simp,Below.refl _ _⟩
 case round =>
  obtain⟨k,hk,rfl,hn,hbel⟩:=hrel;by_cases hlt:k<l.length
  ·have hT:=h.below hbel;obtain⟨g,o,rfl,hg,hc⟩:=hT.at hlt;obtain⟨c0,c1,c2⟩:=hc k hlt;have hs:=all_snoc l (fun t=>b.all fun u=>!clashT t u) k hlt;rw[hn]at hs;have hT2:=(h2.below hbel).alloc (.cells (tC l[k]) 168);have hbel2:=hbel.alloc hbel.size (.cells (tC l[k]) 168);cases hv:(b.all fun u=>!clashT l[k] u)
   ·have HE:Hid (l.all (fun t=>b.all fun u=>!clashT t u)=false):=(show _=_ from all_of_take l _ (k+1) (by rw[hs,hv];rfl))
    clear hs;go_wp2_with fail;refine(HI.out _ _ _ hv hT2).mono ?_;rintro x w1 ⟨rfl,g1⟩;go_wp2_with fail;go_ret;exact⟨by rw[HE.out];rfl,btr hbel2 g1 (Nat.le_refl _)⟩
   ·have HE:Hid ((l.take (k+1)).all (fun t=>b.all fun u=>!clashT t u)=true):=(show _=_ by rw[hs,hv];rfl)
    clear hs;go_wp2_with fail;refine(HI.out _ _ _ hv hT2).mono ?_;rintro x w1 ⟨rfl,g1⟩;go_wp2_with fail;go_roundw;case rel=>exact⟨k+1,by omega,by go_num,HE.out,btr hbel2 g1 (Nat.le_refl _)⟩
    case measure=>simp[intOf];omega
  ·have hk':k=l.length:=by omega
   subst hk';rw[List.take_length]at hn;go_wp2;go_ret;exact⟨by rw[hn];rfl,hbel⟩
def flat (l:List T):List Value:=l.flatMap fun t=>[.int .i64 t.1,.int .u64 t.2.1,.int .u64 t.2.2]
theorem flat_length:∀ l:List T,(flat l).length=l.length*3
 | []=>rfl
 | t::l=>by simp only[flat,List.flatMap_cons,List.length_append,List.length_cons,List.length_nil];have:=flat_length l;unfold flat at this;rw[this];omega
theorem flat_at:∀ (l:List T) (i:Nat) (h:i<l.length),(flat l)[i*3]? = some (.int .i64 l[i].1)∧(flat l)[i*3+1]? = some (.int .u64 l[i].2.1)∧(flat l)[i*3+2]? = some (.int .u64 l[i].2.2)
 | t::l,0,_=>by simp[flat]
 | t::l,i+1,h=>by
   have ih:=flat_at l i (by simpa using h);unfold flat at ih ⊢;rw[List.flatMap_cons,show(i+1)*3=i*3+3 by omega];simpa using ih
theorem flat_cell (l:List T) (j:Nat) (u:Value) (h:(flat l)[j]? = some u):∃ i,∃ hi:i<l.length,(j=i*3∧u=.int .i64 l[i].1)∨(j=i*3+1∧u=.int .u64 l[i].2.1)∨(j=i*3+2∧u=.int .u64 l[i].2.2):=by
 have hj:j<(flat l).length:=by
  rcases Nat.lt_or_ge j (flat l).length with h'|h'
  ·exact h'
  ·rw[List.getElem?_eq_none h']at h;cases h
 rw[flat_length]at hj;have hi:j/3<l.length:=by omega
 obtain⟨x0,x1,x2⟩:=flat_at l (j/3) hi;refine⟨j/3,hi,?_⟩;have:j % 3=0∨j % 3=1∨j % 3=2:=by omega
 rcases this with q|q|q
 ·have e:j=j/3*3:=by omega
  refine .inl ⟨e,?_⟩;rw[← e]at x0;exact Option.some.inj (h.symm.trans x0)
 ·have e:j=j/3*3+1:=by omega
  refine .inr (.inl ⟨e,?_⟩);rw[← e]at x1;exact Option.some.inj (h.symm.trans x1)
 ·have e:j=j/3*3+2:=by omega
  refine .inr (.inr ⟨e,?_⟩);rw[← e]at x2;exact Option.some.inj (h.symm.trans x2)
theorem flat_one (l:List T):∀ u∈flat l,u.oneCell'=true:=by
 intro u hu;unfold flat at hu;rw[List.mem_flatMap]at hu;obtain⟨t,_,ht⟩:=hu;simp at ht;rcases ht with rfl|rfl|rfl<;>rfl
theorem infoT:(prog.info? 168).map (fun i=>(i.zero,i.size,i.bytes))=some (some (.agg #[.int .i64 0,.int .u64 0,.int .u64 0]),3,24):=by kernel_rfl
theorem Ts.news {w:World} {g o:Nat} {l:List T} (h:∀ i (h:i<l.length),C3 w g (o+i*3) l[i]):∀ j u,(flat l)[j]? = some u→w.cell? ((⟨g,o,none⟩:Addr).add j)=some u:=by
 intro j u hj;obtain⟨i,hi,hh⟩:=flat_cell l j u hj;obtain⟨c0,c1,c2⟩:=h i hi;rw[addP];rcases hh with⟨rfl,rfl⟩|⟨rfl,rfl⟩|⟨rfl,rfl⟩
 ·exact c0
 ·rw[← Nat.add_assoc];exact c1
 ·rw[← Nat.add_assoc];exact c2
theorem wpList_app {w:World} {ops:Array Oper} {rest:List Oper} {o:Oper} {a:Act} {Q:Exit→Act→World→Prop} (hgd:o.guard=none) (s x:Operand)
 (ho:o.op=.call { callee:=.builtin .append,args:=#[s,x],argTypes:=#[74,74] }) (base:Nat) (v:Value) (n:Nat) (xs:List Value) (hs:a.eval s=v) (hown:w.ownsRow base 168 3 v n xs)
 (ad:Option Addr) (cap:Nat) (l:List T) (m:Nat) (hm:m=l.length) (hx:a.eval x=.slice ad m cap) (hT:Ts w ad l) (hn:n+l.length≤100000) (hbase:base≤w.heap.size)
 (h:∀ v' w',w'.ownsRow base 168 3 v' (n+l.length) (xs++flat l)→w.grownBy w' v.ownBlock→wpList prog ops Q rest (a.put o.dst v') w'):wpList prog ops Q (o::rest) a w:=by
 obtain⟨i0,hi,hz0,hz1,hz2⟩:=info_parts infoT;subst hm;rcases hT with rfl|⟨g,of,rfl,_,hc⟩
 ·have src:Src prog i0.size 74 (.slice ad 0 cap) 0 [] w:=by
   cases ad with
   | none=>exact Src.ofNil w underlying74 cap
   | some q=>exact Src.ofSlice w underlying74 q 0 cap [] (by simp) (fun j u hj=>by simp at hj) (fun u hu=>by simp at hu)
  rcases hown.2 with⟨rfl,h0⟩|⟨g,c,cur,rfl,hbg,hhg,hnc,hcm,hcs,htk⟩
  ·refine Lib.wpList_append_run w hgd s x 74 74 ho _ _ hs hx _ _ (run_append_nothing w 74 74 o.type 168 i0 underlying74 hi none 0 0 (Nat.le_refl _) _ src) ?_;refine h _ _ ?_ ⟨rfl,rfl,rfl,Nat.le_refl _,fun _ _ _=>rfl⟩;simpa [flat]using hown
  ·refine Lib.wpList_append_run w hgd s x 74 74 ho _ _ hs hx _ _ (run_append_nothing w 74 74 o.type 168 i0 underlying74 hi (some ⟨g,0,none⟩) n c hnc _ src) ?_;refine h _ _ ?_ ⟨rfl,rfl,rfl,Nat.le_refl _,fun _ _ _=>rfl⟩;simpa [flat]using hown
 ·exact wpList_append_own w hgd s x 74 ho base 168 i0 (.agg #[.int .i64 0,.int .u64 0,.int .u64 0]) 3 24 underlying74 hi hz0 hz1 hz2 rfl (by decide) v n xs hs hown ⟨g,of,none⟩ l.length cap (flat l) hx (flat_length l) (Ts.news hc) (flat_one l) (by unfold maxLen;omega) (by omega) hbase (fun v' w' h1 h2 _=>h v' w' h1 h2)
def TsF (base:Nat) (w:World) (a:Option Addr) (l:List T):Prop :=
 l=[]∨∃ g,a=some ⟨g,0,none⟩∧base≤g∧g<w.heap.size∧∀ i (h:i<l.length),C3 w g (i*3) l[i]
theorem TsF.ts {base:Nat} {w:World} {a:Option Addr} {l:List T} (h:TsF base w a l):Ts w a l:=by
 rcases h with h|⟨g,ha,_,hg,hc⟩
 ·exact .inl h
 ·exact .inr ⟨g,0,ha,hg,fun i hi=>by rw[Nat.zero_add];exact hc i hi⟩
theorem TsF.keep {base:Nat} {w w':World} {a:Option Addr} {l:List T} (h:TsF base w a l) (hz:w.heap.size≤w'.heap.size) (hb:∀ g,base≤g→g<w.heap.size→w'.heap[g]? = w.heap[g]?):TsF base w' a l:=by
 rcases h with h|⟨g,ha,h0,hg,hc⟩
 ·exact .inl h
 ·exact .inr ⟨g,ha,h0,Nat.lt_of_lt_of_le hg hz,fun i hi=>(hc i hi).block (hb g h0 hg)⟩
theorem own_ts {base:Nat} {w:World} {v:Value} {l:List T} (h:w.ownsRow base 168 3 v l.length (flat l)):∃ a cap,v=.slice a l.length cap∧l.length≤cap∧TsF base w a l:=by
 rcases h.2 with⟨rfl,h'⟩|⟨g,cap,cur,rfl,hbg,_,hnc,_⟩
 ·have hl:l=[]:=List.length_eq_zero_iff.1 h';subst hl;exact⟨none,0,rfl,Nat.le_refl _,.inl rfl⟩
 ·have hlt:=(h.lt g rfl).2;have cs:∀ i (hi:i<l.length),C3 w g (i*3) l[i]:=fun i hi=>by
   obtain⟨x0,x1,x2⟩:=flat_at l i hi;refine⟨?_,?_,?_⟩
   ·rw[h.cellAt (i*3) (by omega)];exact x0
   ·rw[h.cellAt (i*3+1) (by omega)];exact x1
   ·rw[h.cellAt (i*3+2) (by omega)];exact x2
  exact⟨some ⟨g,0,none⟩,cap,rfl,hnc,.inr ⟨g,rfl,hbg,hlt,cs⟩⟩
theorem cloneT (a:Option Addr) (l:List T) (c:Nat) (w:World) (hT:Ts w a l) (hn:l.length≤100000) :
 Calls prog 85 #[.slice a l.length c] w fun e w'=>∃ a' c',e=.returned (.slice a' l.length c')∧l.length≤c'∧TsF w.heap.size w' a' l∧Below w.heap.size w w':=by
 have q:∀ (w:World) (a:Option Addr) (n c n' c':Nat),(binOp .eql 74 (.slice a n c) (.slice none n' c')).run prog w=.ok (.bool a.isNone) w:=fun w a n c n' c'=>Lib.run_eql_slice_nil w _ _ a n c n' c' underlying74;cases a with
 | none =>
   have hl:l=[]:=by
    rcases hT with h|⟨g,o,h,_⟩
    ·exact h
    ·cases h
   subst hl;clear hT;go_enter func85,ntmps85;go_wp2;go_ret;exact⟨none,0,rfl,Nat.le_refl _,.inl rfl,Below.refl _ _⟩
 | some p =>
   have HT:Hid (Ts w (some p) l):=hT;clear hT;go_enter func85,ntmps85;go_wp2_with (at_builtin;refine wpList_app rfl _ _ rfl w.heap.size (.slice (some ⟨w.heap.size,0,none⟩) 0 0) 0 [] rfl (World.ownsRow_made w #[] 0 (Nat.le_refl _) (Nat.zero_le _) rfl) (some p) c l l.length rfl rfl (HT.out.alloc _) (by omega) (by simp) ?_;intro v' w1 hown hgrow);go_wp2;go_ret;rw[Nat.zero_add,List.nil_append]at hown;obtain⟨a',c',e,hcap,ht⟩:=own_ts hown;exact⟨a',c',by rw[e];rfl,hcap,ht,((Below.refl _ w).alloc (Nat.le_refl _) _).grown hgrow (by simp) (by intro k hk;simp[Value.ownBlock]at hk;omega)⟩
theorem stand_true (f:Int) (v:Value) (w:World) (h : ¬ (5≤f∧f≤9)):Calls prog 185 #[.int .i64 f,v] w fun e w'=>e=.returned (.bool true)∧Below w.heap.size w w':=by
 have b5:(f==5)=false:=by rw[beq_eq_false_iff_ne];omega
 have b6:(f==6)=false:=by rw[beq_eq_false_iff_ne];omega
 have b7:(f==7)=false:=by rw[beq_eq_false_iff_ne];omega
 have b8:(f==8)=false:=by rw[beq_eq_false_iff_ne];omega
 have b9:(f==9)=false:=by rw[beq_eq_false_iff_ne];omega
 clear h;go_enter func185,ntmps185;go_wp2;go_ret;exact⟨rfl,by go_grown⟩
theorem stand_inner (f:Int) (a:Option Addr) (l:List T) (cap:Nat) (w:World) (h:Ts w a l) (hl:l.length≤9223372036854775807) (hf:5≤f∧f≤7) :
 Calls prog 185 #[.int .i64 f,.slice a l.length cap] w fun e w'=>e=.returned (.bool (hasT l (4,2048,65535)))∧Below w.heap.size w w':=by
 have HW:Hid (∀ w,Calls prog 222 #[.int .i64 4,.int .u64 2048] w fun e w'=>e=.returned (tV (4,2048,65535))∧Below w.heap.size w w'):=fun w=>whole_any 4 2048 w;have HC:Hid (∀ t w,Ts w a l→Calls prog 221 #[.slice a l.length cap,tV t] w fun e w'=>e=.returned (.bool (hasT l t))∧Below w.heap.size w w'):=fun t w h=>contains_any a l cap t w h hl;have hcl:f=5∨f=6∨f=7:=by omega
 rcases hcl with rfl|rfl|rfl
 all_goals
  clear hf;go_enter func185,ntmps185;go_wp2_with fail;refine(HW.out _).mono ?_;rintro x w1 ⟨rfl,g1⟩;go_wp2_with fail;refine(HC.out _ _ (h.below g1)).mono ?_;rintro x w2 ⟨rfl,g2⟩;go_wp2_with fail;go_ret;exact⟨rfl,btr g1 g2 (Nat.le_refl _)⟩
theorem stand_ports (f:Int) (a:Option Addr) (l:List T) (cap:Nat) (w:World) (h:Ts w a l) (hl:l.length≤9223372036854775807) (hf:f=8∨f=9) :
 Calls prog 185 #[.int .i64 f,.slice a l.length cap] w fun e w'=>e=.returned (.bool (hasT l (7,6,255)||hasT l (7,17,255)))∧Below w.heap.size w w':=by
 have HW:Hid (∀ v w,Calls prog 222 #[.int .i64 7,.int .u64 v] w fun e w'=>e=.returned (tV (7,v,255))∧Below w.heap.size w w'):=fun v w=>whole_any 7 v w;have HC:Hid (∀ t b w,hasT l t=b→Ts w a l→Calls prog 221 #[.slice a l.length cap,tV t] w fun e w'=>e=.returned (.bool b)∧Below w.heap.size w w'):=fun t b w hb h=>hb ▸ contains_any a l cap t w h hl;rcases hf with rfl|rfl
 all_goals
  cases hb:hasT l (7,6,255)
  ·go_enter func185,ntmps185;go_wp2_with fail;refine(HW.out _ _).mono ?_;rintro x w1 ⟨rfl,g1⟩;go_wp2_with fail;refine(HC.out _ _ _ hb (h.below g1)).mono ?_;rintro x w2 ⟨rfl,g2⟩;go_wp2_with fail;refine(HW.out _ _).mono ?_;rintro x w3 ⟨rfl,g3⟩;go_wp2_with fail;refine(HC.out _ _ _ rfl (((h.below g1).below g2).below g3)).mono ?_;rintro x w4 ⟨rfl,g4⟩;go_wp2_with fail;go_ret;exact⟨rfl,btr (btr (btr g1 g2 (Nat.le_refl _)) g3 (Nat.le_refl _)) g4 (Nat.le_refl _)⟩
  ·go_enter func185,ntmps185;go_wp2_with fail;refine(HW.out _ _).mono ?_;rintro x w1 ⟨rfl,g1⟩;go_wp2_with fail;refine(HC.out _ _ _ hb (h.below g1)).mono ?_;rintro x w2 ⟨rfl,g2⟩;go_wp2_with fail;go_ret;exact⟨rfl,btr g1 g2 (Nat.le_refl _)⟩
theorem stand_any (f:Int) (a:Option Addr) (l:List T) (cap:Nat) (w:World) (h:Ts w a l) (hl:l.length≤9223372036854775807) :
 Calls prog 185 #[.int .i64 f,.slice a l.length cap] w fun e w'=>e=.returned (.bool (standB f l))∧Below w.heap.size w w':=by
 unfold standB;by_cases h1:5≤f∧f≤7
 ·rw[if_pos h1];exact stand_inner f a l cap w h hl h1
 ·rw[if_neg h1];by_cases h2:f=8∨f=9
  ·rw[if_pos h2];exact stand_ports f a l cap w h hl h2
  ·rw[if_neg h2];exact stand_true f _ w (by omega)
end Mt
end Go.Proofs.YtgnihbdcdefdgaaGreatDoor

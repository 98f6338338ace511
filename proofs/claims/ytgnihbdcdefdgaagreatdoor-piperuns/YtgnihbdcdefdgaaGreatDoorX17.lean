import Derived.Test.YtgnihbdcdefdgaaGreatDoorX16
import Derived.Shelf.SlicesQ.IndexFunc
import Derived.Lib.SliceRun
set_option maxHeartbeats 4000000
set_option linter.unusedSimpArgs false
set_option linter.unusedVariables false
open Go.ChangeShapes Go.WideShapes Go.ChangeAt Go.RowKit
open Go.Proofs.Tryz
namespace Go.Proofs.YtgnihbdcdefdgaaGreatDoor
theorem range_set {w:World} {b:Nat} {cs:List Value} (h:w.rangeAt b 0 cs) (k:Nat) (v:Value) (hk:k<cs.length):(w.setCell ⟨b,k,none⟩ v).rangeAt b 0 (cs.set k v):=fun j u hu=>by
 rw[Nat.zero_add];by_cases e:j=k
 ·subst e;rw[List.getElem?_set_self hk]at hu;cases hu;have:=h j cs[j] (List.getElem?_eq_getElem hk);rw[Nat.zero_add]at this;exact World.cell?_setCell_same _ _ _ this
 ·rw[List.getElem?_set_ne (Ne.symm e)]at hu;rw[World.cell?_setCell_other _ _ _ _ (by simp)];have:=h j u hu;rwa [Nat.zero_add]at this
theorem Be.tests {w:World} {b:Nat} {x:Fe} (h:Be w b 0 x) (a:Option Addr) (c:Nat):Be (w.setCell ⟨b,2,none⟩ (.slice a x.p.lt.length c)) b 0 { x with ta:=a,tc:=c }:=range_set h 2 _ (by simp)
theorem Be.apply {w:World} {b:Nat} {x:Fe} (h:Be w b 0 x) (a:Option Addr) (c:Nat):Be (w.setCell ⟨b,3,none⟩ (.slice a x.p.la.length c)) b 0 { x with aa:=a,ca:=c }:=range_set h 3 _ (by simp)
theorem Be.write {w:World} {b:Nat} {x:Fe} (h:Be w b 0 x) (a:Option Addr) (c:Nat):Be (w.setCell ⟨b,4,none⟩ (.slice a x.p.lw.length c)) b 0 { x with aw:=a,cw:=c }:=range_set h 4 _ (by simp)
theorem there_set {w:World} {b o n:Nat} (h:w.there b o n) (q:Addr) (v:Value) (hs:q.spot=none):(w.setCell q v).there b o n:=by
 obtain⟨qb,qo,qs⟩:=q;cases hs;exact World.there_setCells h qb qo [v]
theorem there_frozen {w:World} {b n:Nat} (h:w.there b 0 n) (j:Nat) (hj:j<n):w.frozen? ⟨b,j,none⟩=false:=by
 have:=(h j hj).2;rwa [Nat.zero_add]at this
abbrev zeroE:Array Value:=#[.int .i64 0,.int .i64 0,.slice none 0 0,.slice none 0 0,.slice none 0 0,.bool false,.int .u64 0,.int .u64 0,.int .i64 0,.int .i64 0]
theorem copyOf_any (x:Fe) (w:World) (h:FW w x) :
 Calls prog 43 #[feV x] w fun e w'=>∃ y:Fe,e=.returned (feV y)∧y.p=x.p∧FW w' y∧(∀ b,InF y b→w.heap.size≤b)∧Below w.heap.size w w':=by
 have HT:Hid (∀ w1,Below w.heap.size w w1→Calls prog 85 #[.slice x.ta x.p.lt.length x.tc] w1 fun e w'=>∃ a' c',e=.returned (.slice a' x.p.lt.length c')∧x.p.lt.length≤c'∧Mt.TsF w1.heap.size w' a' x.p.lt∧Below w1.heap.size w1 w'):=(show ∀ w1,_ from fun w1 g=>Mt.cloneT x.ta x.p.lt x.tc w1 (h.t.below g) (by have:=h.nt;omega))
 have HA:Hid (∀ w1,Below w.heap.size w w1→Calls prog 86 #[.slice x.aa x.p.la.length x.ca] w1 fun e w'=>∃ a' c',e=.returned (.slice a' x.p.la.length c')∧x.p.la.length≤c'∧TsF w1.heap.size w' a' x.p.la∧Below w1.heap.size w1 w'):=(show ∀ w1,_ from fun w1 g=>cloneA x.aa x.p.la x.ca w1 (h.a.below g) h.na)
 have HW:Hid (∀ w1,Below w.heap.size w w1→Calls prog 86 #[.slice x.aw x.p.lw.length x.cw] w1 fun e w'=>∃ a' c',e=.returned (.slice a' x.p.lw.length c')∧x.p.lw.length≤c'∧TsF w1.heap.size w' a' x.p.lw∧Below w1.heap.size w1 w'):=(show ∀ w1,_ from fun w1 g=>cloneA x.aw x.p.lw x.cw w1 (h.w.below g) h.nw)
 have HN:Hid (FW w x):=h;clear h;obtain⟨W2,hW2⟩:∃ W2,(fx w x).alloc (.cells zeroE 76)=W2:=⟨_,rfl⟩
 have z2:W2.heap.size=w.heap.size+2:=by rw[← hW2];simp
 have HG2:Hid (Below w.heap.size w W2):=(show Below _ _ _ by rw[← hW2];go_grown)
 have HB2:Hid (Be W2 w.heap.size 0 x):=(show Be _ _ _ _ by rw[← hW2];exact(Be.new w x).below (B:=w.heap.size+1) (by omega) (by go_grown))
 have HX2:Hid (W2.there w.heap.size 0 10):=(show World.there _ _ _ _ by rw[← hW2];exact there_below (B:=w.heap.size+1) (there_new w (feC x) 76) (by omega) (by go_grown))
 have HY2:Hid (W2.there (w.heap.size+1) 0 10):=(show World.there _ _ _ _ by rw[← hW2];have:=there_new (fx w x) zeroE 76;simpa using this)
 obtain⟨_,_,c2,c3,c4,_⟩:=HB2.out.cs;go_enter func43,ntmps43;go_wp2_with fail;refine(HT.out W2 HG2.out).mono ?_;rintro e w3 ⟨a1,n1,rfl,l1,T1,g3⟩;have HT1:Hid (Mt.TsF W2.heap.size w3 a1 x.p.lt):=T1;have HG3:Hid (Below W2.heap.size W2 w3):=g3;obtain⟨W4,h4⟩:∃ W4,w3.setCell ⟨w.heap.size,2,none⟩ (.slice a1 x.p.lt.length n1)=W4:=⟨_,rfl⟩
 have HB4:Hid (Be W4 w.heap.size 0 { x with ta:=a1,tc:=n1 }):=(show Be _ _ _ _ by rw[← h4];exact(HB2.out.below (by omega) g3).tests a1 n1)
 have HX4:Hid (W4.there w.heap.size 0 10):=(show World.there _ _ _ _ by rw[← h4];exact there_set (there_below HX2.out (by omega) g3) _ _ rfl)
 have HY4:Hid (W4.there (w.heap.size+1) 0 10):=(show World.there _ _ _ _ by rw[← h4];exact there_set (there_below HY2.out (by omega) g3) _ _ rfl)
 have O4:Only w.heap.size w3 W4:=by rw[← h4];exact(Only.refl _ _).setCell _ _
 have f2:=there_frozen (there_below HX2.out (by omega) g3) 2 (by omega);have z3:=g3.size;have c2':=(HB2.out.below (by omega) g3).cs.2.2.1;clear T1 g3 c2 c3 c4;have HG4:Hid (Below w.heap.size w W4):=O4.below (Nat.le_refl _) (btr HG2.out HG3.out (by omega));obtain⟨_,_,_,c3,c4,_⟩:=HB4.out.cs;go_wp2_with fail;refine(HA.out W4 HG4.out).mono ?_;rintro e w5 ⟨a2,n2,rfl,l2,T2,g5⟩;have HT2:Hid (TsF W4.heap.size w5 a2 x.p.la):=T2;have HG5:Hid (Below W4.heap.size W4 w5):=g5;have z4:W4.heap.size=w3.heap.size:=O4.size;obtain⟨W6,h6⟩:∃ W6,w5.setCell ⟨w.heap.size,3,none⟩ (.slice a2 x.p.la.length n2)=W6:=⟨_,rfl⟩
 have HB6:Hid (Be W6 w.heap.size 0 { x with ta:=a1,tc:=n1,aa:=a2,ca:=n2 }):=(show Be _ _ _ _ by rw[← h6];exact(HB4.out.below (by omega) g5).apply a2 n2)
 have HX6:Hid (W6.there w.heap.size 0 10):=(show World.there _ _ _ _ by rw[← h6];exact there_set (there_below HX4.out (by omega) g5) _ _ rfl)
 have HY6:Hid (W6.there (w.heap.size+1) 0 10):=(show World.there _ _ _ _ by rw[← h6];exact there_set (there_below HY4.out (by omega) g5) _ _ rfl)
 have O6:Only w.heap.size w5 W6:=by rw[← h6];exact(Only.refl _ _).setCell _ _
 have f3:=there_frozen (there_below HX4.out (by omega) g5) 3 (by omega);have z5:=g5.size;have c3':=(HB4.out.below (by omega) g5).cs.2.2.2.1;clear T2 g5 c3 c4 f2 c2' h4;have HG6:Hid (Below w.heap.size w W6):=O6.below (Nat.le_refl _) (btr HG4.out HG5.out (by omega));obtain⟨_,_,_,_,c4,_⟩:=HB6.out.cs;go_wp2_with fail;refine(HW.out W6 HG6.out).mono ?_;rintro e w7 ⟨a3,n3,rfl,l3,T3,g7⟩;have HT3:Hid (TsF W6.heap.size w7 a3 x.p.lw):=T3;have HG7:Hid (Below W6.heap.size W6 w7):=g7;have z6:W6.heap.size=w5.heap.size:=O6.size;obtain⟨W8,h8⟩:∃ W8,w7.setCell ⟨w.heap.size,4,none⟩ (.slice a3 x.p.lw.length n3)=W8:=⟨_,rfl⟩
 have HB8:Hid (Be W8 w.heap.size 0 { x with ta:=a1,tc:=n1,aa:=a2,ca:=n2,aw:=a3,cw:=n3 }):=(show Be _ _ _ _ by rw[← h8];exact(HB6.out.below (by omega) g7).write a3 n3)
 have HY8:Hid (W8.there (w.heap.size+1) 0 10):=(show World.there _ _ _ _ by rw[← h8];exact there_set (there_below HY6.out (by omega) g7) _ _ rfl)
 have O8:Only w.heap.size w7 W8:=by rw[← h8];exact(Only.refl _ _).setCell _ _
 have f4:=there_frozen (there_below HX6.out (by omega) g7) 4 (by omega);have z7:=g7.size;have c4':=(HB6.out.below (by omega) g7).cs.2.2.2.2.1;clear T3 g7 c4 f3 c3' h6;have HG8:Hid (Below w.heap.size w W8):=O8.below (Nat.le_refl _) (btr HG6.out HG7.out (by omega));have z8:W8.heap.size=w7.heap.size:=O8.size;have HO:Hid (Only w.heap.size w3 W4∧Only w.heap.size w5 W6∧Only w.heap.size w7 W8):=(show _∧_ from⟨O4,O6,O8⟩)
 clear O4 O6 O8
 go_wp2_with (first
  | (refine load_E rfl (.tmp 1) rfl w.heap.size 0 { x with ta:=a1,tc:=n1,aa:=a2,ca:=n2,aw:=a3,cw:=n3 } rfl HB8.out ?_)
  | (refine store_E rfl (.tmp 2) (.tmp 15) rfl (w.heap.size+1) 0 { x with ta:=a1,tc:=n1,aa:=a2,ca:=n2,aw:=a3,cw:=n3 } rfl rfl HY8.out ?_;intro V hV bV tV oV;clear hV))
 refine bodyPost_ret (resF (b:=w.heap.size+1) (x:={ x with ta:=a1,tc:=n1,aa:=a2,ca:=n2,aw:=a3,cw:=n3 }) rfl rfl bV) rfl ?_;obtain⟨O4,O6,O8⟩:=HO.out;have zV:=oV.size;have k4:∀ b,W2.heap.size≤b→b<w3.heap.size→W4.heap[b]? = w3.heap[b]?:=fun b h1 h2=>O4.block b (by omega);have k5:∀ b,b<W4.heap.size→w5.heap[b]? = W4.heap[b]?:=fun b h=>HG5.out.block b h;have k6:∀ b,W2.heap.size≤b→W6.heap[b]? = w5.heap[b]?:=fun b h1=>O6.block b (by omega);have k7:∀ b,b<W6.heap.size→w7.heap[b]? = W6.heap[b]?:=fun b h=>HG7.out.block b h;have k8:∀ b,W2.heap.size≤b→W8.heap[b]? = w7.heap[b]?:=fun b h1=>O8.block b (by omega);have k9:∀ b,W2.heap.size≤b→V.heap[b]? = W8.heap[b]?:=fun b h1=>oV.block b (by omega);have t1:Mt.TsF W2.heap.size V a1 x.p.lt:=HT1.out.keep (by omega) (fun b h1 h2=>by
  rw[k9 b h1,k8 b h1,k7 b (by omega),k6 b h1,k5 b (by omega),k4 b h1 h2])
 have t2:TsF W4.heap.size V a2 x.p.la:=HT2.out.keep (by omega) (fun b h1 h2=>by
  rw[k9 b (by omega),k8 b (by omega),k7 b (by omega),k6 b (by omega)])
 have t3:TsF W6.heap.size V a3 x.p.lw:=HT3.out.keep (by omega) (fun b h1 h2=>by
  rw[k9 b (by omega),k8 b (by omega)])
 refine⟨_,rfl,rfl,⟨t1.ts,t2.ts,t3.ts,HN.out.nt,HN.out.na,HN.out.nw,l1⟩,?_,oV.below (by omega) HG8.out⟩;intro b hb;rcases hb with hb|hb|hb
 ·have:=t1.new hb;omega
 ·have:=t2.new hb;omega
 ·have:=t3.new hb;omega
def twinB (x y:Fp):Bool:=(x.pri==y.pri)&&Mt.sameB x.lt y.lt
def clashB (x y:Fp):Bool:=(x.pri==y.pri)&&Mt.meetsB x.lt y.lt
theorem two_boxes (w:World) (x y:Fe):∃ W,(fx w x).alloc (.cells (feC y) 76)=W∧W.heap.size=w.heap.size+2∧Below w.heap.size w W∧Be W w.heap.size 0 x∧Be W (w.heap.size+1) 0 y:=by
 refine⟨_,rfl,by simp,by go_grown,(Be.new w x).below (B:=w.heap.size+1) (by omega) (by go_grown),?_⟩;have:=Be.new (fx w x) y;simpa using this
theorem isTwin_any (x y:Fe) (w:World) (hx:FW w x) (hy:FW w y) :
 Calls prog 52 #[feV x,feV y] w fun e w'=>e=.returned (.bool (twinB x.p y.p))∧Below w.heap.size w w':=by
 have HS:Hid (∀ w1,Below w.heap.size w w1→Calls prog 91 #[.slice x.ta x.p.lt.length x.tc,.slice y.ta y.p.lt.length y.tc] w1 fun e w'=>e=.returned (.bool (Mt.sameB x.p.lt y.p.lt))∧Below w1.heap.size w1 w'):=(show ∀ w1,_ from fun w1 g=>Mt.same_any _ _ _ _ _ _ w1 (hx.t.below g) (by have:=hx.nt;omega) (hy.t.below g) (by have:=hy.nt;omega))
 clear hx hy;obtain⟨W,hW,zW,gW,bx,bY⟩:=two_boxes w x y;have HG:Hid (Below w.heap.size w W):=gW;obtain⟨_,c1,c2,_⟩:=bx.cs;obtain⟨_,d1,d2,_⟩:=bY.cs;clear bx bY gW;unfold twinB;cases hp:(x.p.pri==y.p.pri)with
 | false =>
   go_enter func52,ntmps52;go_wp2_with fail;go_ret;exact⟨rfl,HG.out⟩
 | true =>
   generalize Mt.sameB x.p.lt y.p.lt=B at *
   go_enter func52,ntmps52;go_wp2_with fail;refine(HS.out W HG.out).mono ?_;rintro e w3 ⟨rfl,g3⟩;go_wp2_with fail;go_ret;exact⟨rfl,btr HG.out g3 (Nat.le_refl _)⟩
theorem addF_any (x y:Fe) (b:Nat) (w:World) (hb:b<w.heap.size) (hB:Be w b 0 x) (hx:FW w x) (hy:FW w y) :
 Calls prog 51 #[feV y,.pointer (some ⟨b,0,none⟩)] w fun e w'=>e=.returned (.bool (twinB x.p y.p))∧Below w.heap.size w w':=by
 have HT:Hid (Calls prog 52 #[feV x,feV y] (fx w y) fun e w'=>e=.returned (.bool (twinB x.p y.p))∧Below (fx w y).heap.size (fx w y) w'):=isTwin_any x y _ (hx.alloc _) (hy.alloc _);have HX:Hid (Be (fx w y) b 0 x):=hB.below hb (by go_grown);have HY:Hid (Be (fx w y) w.heap.size 0 y):=Be.new w y;clear hx hy hB;generalize twinB x.p y.p=B at *
 go_enter func51,ntmps51;go_wp2_with (first|(refine load_E rfl (.tmp 1) rfl b 0 x rfl HX.out ?_)|(refine load_E rfl (.tmp 2) rfl w.heap.size 0 y rfl HY.out ?_));refine HT.out.mono ?_;rintro e w3 ⟨rfl,g3⟩;go_wp2_with fail;go_ret;exact⟨rfl,btr (show Below w.heap.size w (fx w y)by go_grown) g3 (Nat.le_refl _)⟩
theorem clashF_any (x y:Fe) (b:Nat) (w:World) (hb:b<w.heap.size) (hB:Be w b 0 x) (hx:FW w x) (hy:FW w y) :
 Calls prog 93 #[feV y,.pointer (some ⟨b,0,none⟩)] w fun e w'=>e=.returned (.bool (clashB x.p y.p))∧Below w.heap.size w w':=by
 have HT:Hid (Calls prog 94 #[.slice x.ta x.p.lt.length x.tc,.slice y.ta y.p.lt.length y.tc] (fx w y) fun e w'=>e=.returned (.bool (Mt.meetsB x.p.lt y.p.lt))∧Below (fx w y).heap.size (fx w y) w'):=Mt.meets_any _ _ _ _ _ _ _ (hx.alloc _).t (by have:=hx.nt;omega) (hy.alloc _).t (by have:=hy.nt;omega);obtain⟨_,c1,c2,_⟩:=(hB.below (w':=fx w y) hb (by go_grown)).cs;clear hx hy hB;unfold clashB;cases hp:(x.p.pri==y.p.pri)with
 | false =>
   go_enter func93,ntmps93;go_wp2_with fail;go_ret;exact⟨rfl,by go_grown⟩
 | true =>
   generalize Mt.meetsB x.p.lt y.p.lt=B at *
   go_enter func93,ntmps93;go_wp2_with fail;refine HT.out.mono ?_;rintro e w3 ⟨rfl,g3⟩;go_wp2_with fail;go_ret;exact⟨rfl,btr (show Below w.heap.size w (fx w y)by go_grown) g3 (Nat.le_refl _)⟩
def idxV {α:Type} (l:List α) (q:α→Bool):Int:=match l.findIdx? q with
 | some i=>i
 | none=>-1
theorem idxV_some {α:Type} {l:List α} {q:α→Bool} {k:Nat} (hk:k<l.length) (h:q l[k]=true) (h0:∀ j (hj:j<l.length),j<k→q l[j]=false):idxV l q=k:=by
 have:l.findIdx? q=some k:=by
  rw[List.findIdx?_eq_some_iff_getElem];exact⟨hk,h,fun j hj=>by rw[h0 j (by omega) hj];decide⟩
 unfold idxV;rw[this]
theorem idxV_none {α:Type} {l:List α} {q:α→Bool} (h0:∀ j (hj:j<l.length),q l[j]=false):idxV l q = -1:=by
 have:l.findIdx? q=none:=by
  rw[List.findIdx?_eq_none_iff];intro x hx;obtain⟨j,hj,rfl⟩:=List.mem_iff_getElem.1 hx;exact h0 j hj
 unfold idxV;rw[this]
theorem idxV_lt {α:Type} (l:List α) (q:α→Bool) : -1≤idxV l q∧idxV l q<l.length:=by
 unfold idxV;cases h:l.findIdx? q with
 | none=>simp;omega
 | some i =>
   rw[List.findIdx?_eq_some_iff_getElem]at h;obtain⟨hk,_⟩:=h;simp;omega
theorem idxV_any {α:Type} (l:List α) (q:α→Bool):decide (0≤idxV l q)=l.any q:=by
 unfold idxV;cases h:l.findIdx? q with
 | none =>
   rw[List.findIdx?_eq_none_iff]at h;have:l.any q=false:=by rw[List.any_eq_false];intro x hx;simp[h x hx]
   rw[this];decide
 | some i =>
   rw[List.findIdx?_eq_some_iff_getElem]at h;obtain⟨hk,h1,_⟩:=h;have:l.any q=true:=by rw[List.any_eq_true];exact⟨l[i],List.getElem_mem _,h1⟩
   rw[this];simp
def Asks (g:Nat) (lb:Array Value) (q:Fe→Bool) (l:List Fe) (w:World):Prop :=
 ∀ W x,x∈l→Below w.heap.size w W→Calls prog g (#[feV x]++lb) W fun e w'=>e=.returned (.bool (q x))∧Below W.heap.size W w'
theorem idx_any (g:Nat) (lb:Array Value) (eg:∀ args w,(callFunc g args).run prog w=.ok (.enter g args) w) (q:Fe→Bool) (base:Nat) (v:Value) (l:List Fe) (w:World) (hO:OwnE base w v l) (hl:l.length≤100000) (hp:Asks g lb q l w) :
 Calls prog 50 #[v,.func (.func g) #[] lb] w fun e w'=>e=.returned (.int .i64 (idxV l q))∧Below w.heap.size w w':=by
 obtain⟨a,cap,rfl,hform⟩:=OwnE.form2 hO;have HO:Hid (OwnE base w (.slice a l.length cap) l):=hO;have HP:Hid (Asks g lb q l w):=hp;have HF:Hid (a=none∧l=[]∧cap=0∨∃ g,a=some ⟨g,0,none⟩∧base≤g∧g<w.heap.size∧l.length≤cap∧cap≤maxLen):=hform;clear hO hp hform;go_enter func50,ntmps50;go_wp2;go_loopw [5,8] (fun _ i wr=>∃ k:Nat,k≤l.length∧i=.int .i64 k∧Hid (∀ j (hj:j<l.length),j<k→q l[j]=false)∧Below w.heap.size w wr) (fun _ i _=>l.length-(intOf i).toNat);case atStart=>exact⟨0,Nat.zero_le _,rfl,(show ∀ j,_ from fun j _ hj=>absurd hj (Nat.not_lt_zero _)),Below.refl _ _⟩
 case round =>
  obtain⟨k,hk,rfl,HN,hbel⟩:=hrel;by_cases hlt:k<l.length
  ·obtain⟨gb,rfl,_,hgb,hnc,_⟩:∃ g,a=some ⟨g,0,none⟩∧base≤g∧g<w.heap.size∧l.length≤cap∧cap≤maxLen:=by
    rcases HF.out with⟨_,h,_⟩|h
    ·subst h;cases hlt
    ·exact h
   have HB:Hid (Be wr gb (k*10) l[k]):=(OwnE.be rfl HO.out k hlt).below hgb hbel;have HC:Hid (Calls prog g (#[feV l[k]]++lb) wr fun e w'=>e=.returned (.bool (q l[k]))∧Below wr.heap.size wr w'):=HP.out wr l[k] (List.getElem_mem _) hbel;cases hq:q l[k]with
   | true =>
     rw[hq]at HC;have HR:Hid (idxV l q=k):=idxV_some hlt hq HN.out;clear hq;go_wp2_with (first|(refine load_E rfl (.tmp 14) rfl gb (k*10) l[k] (by simp[Act.eval,Act.put]) HB.out ?_)|(go_at_fn g;refine HC.out.mono ?_;rintro e w1 ⟨rfl,g1⟩));go_ret;exact⟨by rw[HR.out];rfl,btr hbel g1 (Nat.le_refl _)⟩
   | false =>
     rw[hq]at HC;have HN2:Hid (∀ j (hj:j<l.length),j<k+1→q l[j]=false):=(show ∀ j,_ from fun j hj h=>by
      by_cases e:j=k
      ·subst e;exact hq
      ·exact HN.out j hj (by omega))
     clear hq;go_wp2_with (first|(refine load_E rfl (.tmp 14) rfl gb (k*10) l[k] (by simp[Act.eval,Act.put]) HB.out ?_)|(go_at_fn g;refine HC.out.mono ?_;rintro e w1 ⟨rfl,g1⟩));go_roundw;case rel=>exact⟨k+1,by omega,by go_num,HN2,btr hbel g1 (Nat.le_refl _)⟩
     case measure=>simp[intOf];omega
  ·have hk':k=l.length:=by omega
   subst hk';have HR:Hid (idxV l q = -1):=idxV_none (fun j hj=>HN.out j hj hj);go_wp2;go_ret;exact⟨by rw[HR.out];rfl,hbel⟩
theorem has_any (g:Nat) (lb:Array Value) (eg:∀ args w,(callFunc g args).run prog w=.ok (.enter g args) w) (q:Fe→Bool) (base:Nat) (v:Value) (l:List Fe) (w:World) (hO:OwnE base w v l) (hl:l.length≤100000) (hp:Asks g lb q l w) :
 Calls prog 92 #[v,.func (.func g) #[] lb] w fun e w'=>e=.returned (.bool (l.any q))∧Below w.heap.size w w':=by
 have HC:Hid (Calls prog 50 #[v,.func (.func g) #[] lb] w fun e w'=>e=.returned (.int .i64 (idxV l q))∧Below w.heap.size w w'):=idx_any g lb eg q base v l w hO hl hp;have HR:Hid (decide (0≤idxV l q)=l.any q):=idxV_any l q;have hb:=idxV_lt l q;clear hO hp;generalize idxV l q=I at *
 go_enter func92,ntmps92;go_wp2_with fail;refine HC.out.mono ?_;rintro e w1 ⟨rfl,g1⟩;go_wp2_with fail;go_ret;exact⟨by rw[← HR.out];rfl,g1⟩
theorem enCl:∀ args w,(callFunc 93 args).run prog w=.ok (.enter 93 args) w:=enters_of func93 (by kernel_rfl) rfl
theorem enA:∀ args w,(callFunc 51 args).run prog w=.ok (.enter 51 args) w:=enters_of func51 (by kernel_rfl) rfl
theorem ownE_below {base:Nat} {w w':World} {v:Value} {l:List Fe} (h:OwnE base w v l) (g:Below w.heap.size w w'):OwnE base w' v l:=own_below h g
theorem clashes_any (x:Fe) (base:Nat) (v:Value) (l:List Fe) (w:World) (hx:FW w x) (hO:OwnE base w v l) (hl:l.length≤100000) (hw:∀ y∈l,FW w y) :
 Calls prog 53 #[feV x,v] w fun e w'=>e=.returned (.bool (l.any fun y=>clashB x.p y.p))∧Below w.heap.size w w':=by
 have g0:Below w.heap.size w (fx w x):=by go_grown
 have HC:Hid (Calls prog 92 #[v,.func (.func 93) #[] #[.pointer (some ⟨w.heap.size,0,none⟩)]] (fx w x) fun e w'=>e=.returned (.bool (l.any fun y=>clashB x.p y.p))∧Below (fx w x).heap.size (fx w x) w') :=
  has_any 93 _ enCl (fun y=>clashB x.p y.p) base v l _ (ownE_below hO g0) hl (fun W y hy g=>by
   have g1:=g0.trans (g.mono (by simp));have hz:=g.size;simp at hz;exact clashF_any x y w.heap.size W (by omega) ((Be.new w x).below (by simp) g) (hx.below g1) ((hw y hy).below g1))
 clear hx hO hw;generalize (l.any fun y=>clashB x.p y.p)=B at *
 go_enter func53,ntmps53;go_wp2_with fail;refine HC.out.mono ?_;rintro e w1 ⟨rfl,g1⟩;go_wp2_with fail;go_ret;exact⟨rfl,btr g0 g1 (Nat.le_refl _)⟩
def endV (pri:Int):List Fp→Nat
 | []=>0
 | y::l=>if y.pri<pri then 0 else endV pri l+1
theorem endV_le (pri:Int):∀ l:List Fp,endV pri l≤l.length
 | []=>Nat.le_refl _
 | y::l=>by unfold endV;split<;>simp[endV_le pri l]
theorem endV_at (pri:Int):∀ (l:List Fp) (k:Nat) (hk:k<l.length),(∀ j (hj:j<l.length),j<k→¬ l[j].pri<pri)→l[k].pri<pri→endV pri l=k
 | y::l,0,_,_,h=>by unfold endV;rw[if_pos (by simpa using h)]
 | y::l,k+1,hk,h0,h=>by
   unfold endV;rw[if_neg (show ¬ y.pri<pri from h0 0 (by simp) (by omega)),endV_at pri l k (by simpa using hk) (fun j hj hjk=>h0 (j+1) (by simpa using hj) (by omega)) (by simpa using h)]
theorem endV_none (pri:Int):∀ (l:List Fp),(∀ j (hj:j<l.length),¬ l[j].pri<pri)→endV pri l=l.length
 | [],_=>rfl
 | y::l,h0=>by
   unfold endV;rw[if_neg (show ¬ y.pri<pri from h0 0 (by simp)),endV_none pri l (fun j hj=>h0 (j+1) (by simpa using hj))];simp
theorem endOf_any (pri:Int) (base:Nat) (v:Value) (l:List Fe) (w:World) (hO:OwnE base w v l) (hl:l.length≤100000) :
 Calls prog 55 #[.int .i64 pri,v] w fun e w'=>e=.returned (.int .i64 (endV pri (l.map Fe.p)))∧Below w.heap.size w w':=by
 obtain⟨a,cap,rfl,hform⟩:=OwnE.form2 hO;have HO:Hid (OwnE base w (.slice a l.length cap) l):=hO;have HF:Hid (a=none∧l=[]∧cap=0∨∃ g,a=some ⟨g,0,none⟩∧base≤g∧g<w.heap.size∧l.length≤cap∧cap≤maxLen):=hform;clear hO hform;go_enter func55,ntmps55;go_wp2;go_loopw [5,6,9] (fun _ _ i wr=>∃ k:Nat,k≤l.length∧i=.int .i64 k∧Hid (∀ j (hj:j<l.length),j<k→¬ l[j].p.pri<pri)∧Below w.heap.size w wr) (fun _ _ i _=>l.length-(intOf i).toNat);case atStart=>exact⟨0,Nat.zero_le _,rfl,(show ∀ j,_ from fun j _ hj=>absurd hj (Nat.not_lt_zero _)),Below.refl _ _⟩
 case round =>
  obtain⟨k,hk,rfl,HN,hbel⟩:=hrel;by_cases hlt:k<l.length
  ·obtain⟨gb,rfl,_,hgb,hnc,_⟩:∃ g,a=some ⟨g,0,none⟩∧base≤g∧g<w.heap.size∧l.length≤cap∧cap≤maxLen:=by
    rcases HF.out with⟨_,h,_⟩|h
    ·subst h;cases hlt
    ·exact h
   have HB:Hid (Be wr gb (k*10) l[k]):=(OwnE.be rfl HO.out k hlt).below hgb hbel;have HL:Hid (Below w.heap.size w wr):=hbel;by_cases hp:l[k].p.pri<pri
   ·have HR:Hid (endV pri (l.map Fe.p)=k):=endV_at pri _ k (by simpa using hlt) (fun j hj h=>by simpa using HN.out j (by simpa using hj) h) (by simpa using hp);go_wp2_with (first|(refine load_E rfl (.tmp 12) rfl gb (k*10) l[k] (by simp[Act.eval,Act.put]) HB.out ?_)|(refine store_E rfl (.tmp 6) (.tmp 13) rfl wr.heap.size 0 l[k] rfl rfl (there_new wr zeroE 76) ?_;intro V hV bV tV oV;clear hV;have d1:=bV.cs.2.1));go_ret;exact⟨by rw[HR.out];rfl,oV.below HL.out.size (HL.out.alloc HL.out.size _)⟩
   ·have HN2:Hid (∀ j (hj:j<l.length),j<k+1→¬ l[j].p.pri<pri):=(show ∀ j,_ from fun j hj h=>by
     by_cases e:j=k
     ·subst e;exact hp
     ·exact HN.out j hj (by omega))
    go_wp2_with (first|(refine load_E rfl (.tmp 12) rfl gb (k*10) l[k] (by simp[Act.eval,Act.put]) HB.out ?_)|(refine store_E rfl (.tmp 6) (.tmp 13) rfl wr.heap.size 0 l[k] rfl rfl (there_new wr zeroE 76) ?_;intro V hV bV tV oV;clear hV;have d1:=bV.cs.2.1));go_roundw;case rel=>exact⟨k+1,by omega,by go_num,HN2,oV.below HL.out.size (HL.out.alloc HL.out.size _)⟩
    case measure=>simp[intOf];omega
  ·have hk':k=l.length:=by omega
   subst hk';have HR:Hid (endV pri (l.map Fe.p)=l.length):=(endV_none pri _ (fun j hj=>by simpa using HN.out j (by simpa using hj) (by simpa using hj))).trans (by simp);go_wp2;go_ret;exact⟨by rw[HR.out];rfl,hbel⟩
theorem gby_below {w a b:World} {row:Option Nat} (h:w.grownBy a row) (g:Below a.heap.size a b):w.grownBy b row :=
 ⟨g.os.trans h.os,g.tape.trans h.tape,g.output.trans h.output,Nat.le_trans h.size g.size,fun k hk hne=>(g.block k (Nat.lt_of_lt_of_le hk h.size)).trans (h.block k hk hne)⟩
theorem gby_only {w a b:World} {row:Option Nat} {i:Nat} (h:w.grownBy a row) (g:Only i a b) (hi:w.heap.size≤i∨row=some i):w.grownBy b row :=
 ⟨g.os.trans h.os,g.tape.trans h.tape,g.output.trans h.output,by rw[g.size];exact h.size,fun k hk hne=>(g.block k (by
   rcases hi with hi|hi
   ·omega
   ·intro e;exact hne (by rw[hi,e]))).trans (h.block k hk hne)⟩
theorem gby_of_below {w b:World} (row:Option Nat) (g:Below w.heap.size w b):w.grownBy b row:=gby_below ⟨rfl,rfl,rfl,Nat.le_refl _,fun _ _ _=>rfl⟩ g
theorem gby_trans {w a b:World} {row:Option Nat} (h:w.grownBy a row) (g:a.grownBy b row):w.grownBy b row :=
 ⟨g.os.trans h.os,g.tape.trans h.tape,g.output.trans h.output,Nat.le_trans h.size g.size,fun k hk hne=>(g.block k (Nat.lt_of_lt_of_le hk h.size) hne).trans (h.block k hk hne)⟩
def AsksR (g:Nat) (lb:Array Value) (q:Fe→Bool) (l:List Fe) (w:World) (row:Option Nat):Prop :=
 ∀ W x,x∈l→w.grownBy W row→Calls prog g (#[feV x]++lb) W fun e w'=>e=.returned (.bool (q x))∧Below W.heap.size W w'
theorem AsksR.plain {g:Nat} {lb:Array Value} {q:Fe→Bool} {l:List Fe} {w:World} {row:Option Nat} (h:AsksR g lb q l w row):Asks g lb q l w:=fun W x hx hb=>h W x hx (gby_of_below row hb)
abbrev zeroV:Value:=.agg zeroE
structure DI (p:Fe→Bool) (l m:List Fe) (i j:Nat):Prop where
 len:m.length=l.length
 pre:m.take i=(l.take j).filter p
 post:∀ k,j≤k→m[k]? = l[k]?
 lt:i<j
theorem DI.keep {p:Fe→Bool} {l m:List Fe} {i j:Nat} (h:DI p l m i j) (hj:j<l.length) (hp:p l[j]=true):DI p l (m.set i l[j]) (i+1) (j+1):=by
 have hi:i<m.length:=by have:=h.len;have:=h.lt;omega
 refine⟨by simp[h.len],?_,?_,by have:=h.lt;omega⟩
 ·rw[List.take_succ_eq_append_getElem (by simpa using hi),List.getElem_set_self,List.take_set_of_le (Nat.le_refl _),h.pre,List.take_succ_eq_append_getElem hj,List.filter_append];simp[hp]
 ·intro k hk;rw[List.getElem?_set_ne (by have:=h.lt;omega)];exact h.post k (by omega)
end Go.Proofs.YtgnihbdcdefdgaaGreatDoor

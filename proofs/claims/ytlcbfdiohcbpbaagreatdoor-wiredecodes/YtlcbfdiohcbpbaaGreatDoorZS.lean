import Derived.Test.YtlcbfdiohcbpbaaGreatDoorZA1
import Derived.Test.YtlcbfdiohcbpbaaGreatDoorZB
import Derived.Test.YtlcbfdiohcbpbaaGreatDoorZW
namespace Go.Proofs.YtlcbfdiohcbpbaaGreatDoor
set_option maxHeartbeats 16000000
set_option maxRecDepth 20000
open Go.ChangeShapes Go.WideShapes Go.ChangeAt Go.RowKit
def sameB (l m:List A):Bool:=decide (l=m)
theorem same_stop {l m:List A} {k:Nat} (h1:k < l.length) (h2:k < m.length) (h:l[k]≠m[k]):sameB l m=false:=by
 unfold sameB;rw [decide_eq_false_iff_not];intro e;subst e;exact h rfl
theorem same_step {l m:List A} {k:Nat} (h1:k < l.length) (h2:k < m.length) (h:l.take k=m.take k) (e:l[k]=m[k]):l.take (k + 1)=m.take (k + 1):=by
 rw [take_snoc_get l k h1,take_snoc_get m k h2,h,e]
theorem same_any (a b:Option Addr) (l m:List A) (ca cb:Nat) (w:World) (ha:Ts w a l) (hb:Ts w b m) (hl:l.length≤1000) (hm:m.length≤1000) :
    Calls Tryz.prog 28 #[.slice a l.length ca,.slice b m.length cb] w fun e w'=>e=.returned (.bool (sameB l m))∧Below w.heap.size w w':=by
  have hE:=neT
  have hG:=guT
  by_cases hlen:l.length=m.length
  · have hn:((l.length:Int) != (m.length:Int))=false:=by simp [hlen]
    have HLen:Hid (l.length=m.length):=hlen
    clear hlen
    go_enter Tryz.func28,Tryz.ntmps28
    go_wp2_with fail
    go_loopw [5] (fun i wr=>∃ k:Nat,k≤l.length∧i=.int .i64 k∧Hid (l.take k=m.take k)∧Below w.heap.size w wr) (fun i _=>l.length - (intOf i).toNat)
    case atStart=>exact ⟨0,Nat.zero_le _,rfl,(show _=_ by simp),Below.refl _ _⟩
    case round =>
      obtain ⟨k,hk,rfl,HT,hbel⟩:=hrel
      by_cases hlt:k < l.length
      · have hlm:k < m.length:=by have:=HLen.out;omega
        have tA:=ha.below hbel
        have tB:=hb.below hbel
        obtain ⟨g,o,rfl,hg,hc⟩:=tA.at hlt
        obtain ⟨g',o',rfl,hg',hc'⟩:=tB.at hlm
        have qa:=hc k hlt
        have qb:=hc' k hlm
        have HST:Hid (l[k]≠m[k]→sameB l m=false):=(show _→_ from fun h=>same_stop hlt hlm h)
        have HGO:Hid (l[k]=m[k]→l.take (k + 1)=m.take (k + 1)):=(show _→_ from fun h=>same_step hlt hlm HT.out h)
        have lm1:(k:Int) < (m.length:Int):=by omega
        clear hc hc' tA tB HT
        generalize l[k]=X at *
        generalize m[k]=Y at *
        obtain ⟨a0,a1,a2⟩:=qa
        obtain ⟨b0,b1,b2⟩:=qb
        by_cases he:X=Y
        · have hd:eqB X Y=true:=eqB_true.2 he
          have HT2:Hid (l.take (k + 1)=m.take (k + 1)):=HGO.out he
          clear he HGO HST
          go_wp2_with fail
          go_quiet (fail)
          go_wp2_with fail
          go_roundw
          case rel=>exact ⟨k + 1,by omega,by go_num,HT2,bdr hbel _⟩
          case measure=>simp [intOf];omega
        · have hd:eqB X Y=false:=eqB_false.2 he
          have HT2:Hid (sameB l m=false):=HST.out he
          clear he HGO HST
          go_wp2_with fail
          go_quiet (fail)
          go_wp2_with fail
          go_ret
          exact ⟨by rw [HT2.out];rfl,bdr hbel _⟩
      · have hk':k=l.length:=by omega
        subst hk'
        have e:sameB l m=true:=by
          have:=HT.out
          rw [List.take_length,HLen.out,List.take_length] at this
          unfold sameB;simp [this]
        go_wp2_with fail
        go_ret
        exact ⟨by rw [e];rfl,hbel⟩
  · have hn:((l.length:Int) != (m.length:Int))=true:=by simp;omega
    have e:sameB l m=false:=by
      unfold sameB;rw [decide_eq_false_iff_not];intro e;subst e;exact hlen rfl
    rw [e]
    clear e hlen
    go_enter Tryz.func28,Tryz.ntmps28
    go_wp2_with fail
    go_ret
    exact ⟨rfl,Below.refl _ _⟩
end Go.Proofs.YtlcbfdiohcbpbaaGreatDoor
namespace Go.Proofs.YtlcbfdiohcbpbaaGreatDoor.Mt
open Go.ChangeShapes Go.WideShapes Go.ChangeAt Go.RowKit
def sameB (a b:List T):Bool:=decide (a=b)
theorem rsame_any (a1:Option Addr) (l:List T) (cap1:Nat) (a2:Option Addr) (b:List T) (cap2:Nat) (w:World) (h:Ts w a1 l) (hl:l.length≤100000) (h2:Ts w a2 b) (hl2:b.length≤100000) :
    Calls Tryz.prog 62 #[.slice a1 l.length cap1,.slice a2 b.length cap2] w fun e w'=>e=.returned (.bool (sameB l b))∧Below w.heap.size w w':=by
  have hE:=neT
  have hG:=guT
  by_cases hq:l.length=b.length
  · have hne:((l.length:Int) != (b.length:Int))=false:=by simp [hq]
    go_enter Tryz.func62,Tryz.ntmps62
    go_wp2
    go_loopw [5] (fun i wr=>∃ k:Nat,k≤l.length∧i=.int .i64 k∧l.take k=b.take k∧Below w.heap.size w wr) (fun i _=>l.length - (intOf i).toNat)
    case atStart=>exact ⟨0,by omega,rfl,by simp,Below.refl _ _⟩
    case round =>
      obtain ⟨k,hk,rfl,hn,hbel⟩:=hrel
      by_cases hlt:k < l.length
      · have hlt2:k < b.length:=by omega
        have hT:=h.below hbel
        have hT2:=h2.below hbel
        obtain ⟨g,o,rfl,hg,hc⟩:=hT.at hlt
        obtain ⟨g2,o2,rfl,hg2,hc2⟩:=hT2.at hlt2
        obtain ⟨c0,c1,c2⟩:=hc k hlt
        obtain ⟨d0,d1,d2⟩:=hc2 k hlt2
        go_wp2
        go_quiet (fail)
        by_cases he:l[k]=b[k]
        · have hd:eqB l[k] b[k]=true:=eqB_true.2 he
          have HE:Hid (l.take (k + 1)=b.take (k + 1)):=(show _=_ by rw [take_snoc_get l k hlt,take_snoc_get b k hlt2,hn,he])
          clear he
          rw [hd]
          go_wp2
          go_roundw
          case rel=>exact ⟨k + 1,by omega,by go_num,HE.out,bdr hbel _⟩
          case measure=>simp [intOf];omega
        · have hd:eqB l[k] b[k]=false:=eqB_false.2 he
          have HE:Hid (sameB l b=false):=(show _=_ by
            unfold sameB
            rw [decide_eq_false_iff_not]
            intro hh
            apply he
            subst hh
            rfl)
          clear he
          rw [hd]
          go_wp2
          go_ret
          exact ⟨by rw [HE.out];rfl,bdr hbel _⟩
      · have hk':k=l.length:=by omega
        subst hk'
        rw [List.take_length,hq,List.take_length] at hn
        have e:sameB l b=true:=by unfold sameB;exact decide_eq_true hn
        go_wp2
        go_ret
        exact ⟨by rw [e];rfl,hbel⟩
  · have hne:((l.length:Int) != (b.length:Int))=true:=by simp;omega
    have e:sameB l b=false:=by
      unfold sameB
      rw [decide_eq_false_iff_not]
      intro hh
      exact hq (by rw [hh])
    rw [e]
    go_enter Tryz.func62,Tryz.ntmps62
    go_wp2
    go_ret
    exact ⟨rfl,Below.refl _ _⟩
end Go.Proofs.YtlcbfdiohcbpbaaGreatDoor.Mt
namespace Go.Proofs.YtlcbfdiohcbpbaaGreatDoor
open Go.ChangeShapes Go.WideShapes Go.ChangeAt Go.RowKit
set_option linter.unusedVariables false
set_option linter.unusedSimpArgs false
def sSp (s t:Sp):Bool:=s.tab == t.tab && sameB s.la t.la && sameB s.lw t.lw && (s.clr == t.clr) && s.mt == t.mt && s.mm == t.mm && s.met == t.met && s.go == t.go
def sEnt (p:Int) (l:List Mt.T) (s:Sp) (q:Int) (k:List Mt.T) (t:Sp):Bool:=p == q && Mt.sameB l k && sSp s t
def sBk (b c:B3):Bool:=b.1 == c.1 && b.2.1 == c.2.1 && sameB b.2.2 c.2.2
def sBks:List B3→List B3→Bool
 | [],[]=>true
 | b :: l,c :: k=>sBk b c && sBks l k
 | _,_=>false
def sGrp (i k:Int) (l:List B3) (j n:Int) (r:List B3):Bool:=i == j && k == n && sBks l r
def sMet (a b c x y z:Int):Bool:=a == x && b == y && c == z
def sameM (m n:Msg):Bool:=m.kind == n.kind && m.xid == n.xid && m.cmd == n.cmd && (m.chk == n.chk) && sEnt m.pri m.ts m.sp n.pri n.ts n.sp && sGrp m.gid m.gkd m.gb n.gid n.gkd n.gb && sMet m.mid m.mra m.mbu n.mid n.mra n.mbu && m.typ == n.typ && m.cod == n.cod && m.prt == n.prt && (m.live == n.live) && sameB m.la n.la && m.dat.toList == n.dat.toList
theorem sameB_refl (l:List A):sameB l l=true:=by simp [sameB]
theorem sBks_refl:∀ l:List B3,sBks l l=true
 | []=>rfl
 | b :: l=>by simp [sBks,sBk,sameB_refl,sBks_refl l]
theorem sameM_refl (m:Msg):sameM m m=true:=by
 simp [sameM,sEnt,sSp,sGrp,sMet,sameB_refl,sBks_refl,Mt.sameB]
theorem sBks_len:∀ (l k:List B3),l.length≠k.length→sBks l k=false
  | [],[],h=>absurd rfl h
  | [],_ :: _,_=>rfl
  | _ :: _,[],_=>rfl
  | b :: l,c :: k,h=>by
    rw [sBks,sBks_len l k (by simpa using h),Bool.and_false]
theorem sBks_at:∀ (l k:List B3) (i:Nat) (hl:i < l.length) (hk:i < k.length),sBk l[i] k[i]=false→sBks l k=false
  | b :: l,c :: k,0,_,_,h=>by
    rw [sBks]
    simp only [List.getElem_cons_zero] at h
    rw [h,Bool.false_and]
  | b :: l,c :: k,i + 1,hl,hk,h=>by
    rw [sBks]
    simp only [List.getElem_cons_succ] at h
    rw [sBks_at l k i (by simpa using hl) (by simpa using hk) h,Bool.and_false]
theorem sBks_all:∀ (l k:List B3),l.length=k.length→(∀ i (hl:i < l.length) (hk:i < k.length),sBk l[i] k[i]=true)→sBks l k=true
  | [],[],_,_=>rfl
  | [],_ :: _,h,_=>by cases h
  | _ :: _,[],h,_=>by cases h
  | b :: l,c :: k,h,g=>by
    rw [sBks,sBks_all l k (by simpa using h) (fun i hl hk=>g (i + 1) (by simpa using hl) (by simpa using hk))]
    have:=g 0 (by simp) (by simp)
    simp only [List.getElem_cons_zero] at this
    rw [this]
    rfl
theorem sSp_any (x y:En) (w:World) (hx:EW w x) (hy:EW w y):Calls Tryz.prog 63 #[enV x,enV y] w fun e w'=>e=.returned (.bool (sSp x.sp y.sp))∧Below w.heap.size w w':=by
 have H1:Hid (∀ w1,Below w.heap.size w w1→Calls Tryz.prog 28 #[.slice x.aa x.la.length x.ca,.slice y.aa y.la.length y.ca] w1 fun e w'=>e=.returned (.bool (sameB x.la y.la))∧Below w1.heap.size w1 w'):=(show ∀ w1,_ from fun w1 g=>same_any x.aa y.aa x.la y.la x.ca y.ca w1 (hx.a.below g) (hy.a.below g) hx.na hy.na)
 have H2:Hid (∀ w1,Below w.heap.size w w1→Calls Tryz.prog 28 #[.slice x.aw x.lw.length x.cw,.slice y.aw y.lw.length y.cw] w1 fun e w'=>e=.returned (.bool (sameB x.lw y.lw))∧Below w1.heap.size w1 w'):=(show ∀ w1,_ from fun w1 g=>same_any x.aw y.aw x.lw y.lw x.cw y.cw w1 (hx.w.below g) (hy.w.below g) hx.nw hy.nw)
 have HR:Hid (sSp x.sp y.sp=(x.tab == y.tab && sameB x.la y.la && sameB x.lw y.lw && (x.clr == y.clr) && x.mt == y.mt && x.mm == y.mm && x.met == y.met && x.go == y.go)):=(show _=_ from rfl)
 rw [HR.out]
 clear hx hy HR
 generalize sameB x.la y.la=B1 at *
 generalize sameB x.lw y.lw=B2 at *
 obtain ⟨R,hR⟩:∃ R,(x.tab == y.tab && B1 && B2 && (x.clr == y.clr) && x.mt == y.mt && x.mm == y.mm && x.met == y.met && x.go == y.go)=R:=⟨_,rfl⟩
 rw [hR]
 have HR:Hid ((x.tab == y.tab && B1 && B2 && (x.clr == y.clr) && x.mt == y.mt && x.mm == y.mm && x.met == y.met && x.go == y.go)=R):=hR
 clear hR
 go_enter Tryz.func63,Tryz.ntmps63
 go_wp2_with fail
 all_goals try (go_ret;refine ⟨ret_bool ?_,by go_grown⟩;rw [← HR.out];simp [*];done)
 refine (H1.out _ (by go_grown)).mono ?_
 rintro r w1 ⟨rfl,g1⟩
 have c4:w1.cell? ⟨w.heap.size,4,none⟩=some (.slice x.aw x.lw.length x.cw):=(g1.cell (p:=⟨w.heap.size,4,none⟩) (by simp;omega)).trans (by simp)
 have d4:w1.cell? ⟨w.heap.size + 1,4,none⟩=some (.slice y.aw y.lw.length y.cw):=(g1.cell (p:=⟨w.heap.size + 1,4,none⟩) (by simp)).trans (by simp)
 have c5:w1.cell? ⟨w.heap.size,5,none⟩=some (.bool x.clr):=(g1.cell (p:=⟨w.heap.size,5,none⟩) (by simp;omega)).trans (by simp)
 have d5:w1.cell? ⟨w.heap.size + 1,5,none⟩=some (.bool y.clr):=(g1.cell (p:=⟨w.heap.size + 1,5,none⟩) (by simp)).trans (by simp)
 have c6:w1.cell? ⟨w.heap.size,6,none⟩=some (.int .u64 x.mt):=(g1.cell (p:=⟨w.heap.size,6,none⟩) (by simp;omega)).trans (by simp)
 have d6:w1.cell? ⟨w.heap.size + 1,6,none⟩=some (.int .u64 y.mt):=(g1.cell (p:=⟨w.heap.size + 1,6,none⟩) (by simp)).trans (by simp)
 have c7:w1.cell? ⟨w.heap.size,7,none⟩=some (.int .u64 x.mm):=(g1.cell (p:=⟨w.heap.size,7,none⟩) (by simp;omega)).trans (by simp)
 have d7:w1.cell? ⟨w.heap.size + 1,7,none⟩=some (.int .u64 y.mm):=(g1.cell (p:=⟨w.heap.size + 1,7,none⟩) (by simp)).trans (by simp)
 have c8:w1.cell? ⟨w.heap.size,8,none⟩=some (.int .i64 x.met):=(g1.cell (p:=⟨w.heap.size,8,none⟩) (by simp;omega)).trans (by simp)
 have d8:w1.cell? ⟨w.heap.size + 1,8,none⟩=some (.int .i64 y.met):=(g1.cell (p:=⟨w.heap.size + 1,8,none⟩) (by simp)).trans (by simp)
 have c9:w1.cell? ⟨w.heap.size,9,none⟩=some (.int .i64 x.go):=(g1.cell (p:=⟨w.heap.size,9,none⟩) (by simp;omega)).trans (by simp)
 have d9:w1.cell? ⟨w.heap.size + 1,9,none⟩=some (.int .i64 y.go):=(g1.cell (p:=⟨w.heap.size + 1,9,none⟩) (by simp)).trans (by simp)
 have G1:Below w.heap.size w w1:=btr (by go_grown) g1 (Nat.le_refl _)
 have z1:w.heap.size + 1 < w1.heap.size:=Nat.lt_of_lt_of_le (by simp) g1.size
 clear g1
 go_wp2_with fail
 all_goals try (go_ret;refine ⟨ret_bool ?_,G1⟩;rw [← HR.out];simp [*];done)
 refine (H2.out _ G1).mono ?_
 rintro r w2 ⟨rfl,g2⟩
 have c4':w2.cell? ⟨w.heap.size,4,none⟩=some (.slice x.aw x.lw.length x.cw):=(g2.cell (p:=⟨w.heap.size,4,none⟩) (show w.heap.size < w1.heap.size by omega)).trans c4
 have d4':w2.cell? ⟨w.heap.size + 1,4,none⟩=some (.slice y.aw y.lw.length y.cw):=(g2.cell (p:=⟨w.heap.size + 1,4,none⟩) (show w.heap.size + 1 < w1.heap.size by omega)).trans d4
 have c5':w2.cell? ⟨w.heap.size,5,none⟩=some (.bool x.clr):=(g2.cell (p:=⟨w.heap.size,5,none⟩) (show w.heap.size < w1.heap.size by omega)).trans c5
 have d5':w2.cell? ⟨w.heap.size + 1,5,none⟩=some (.bool y.clr):=(g2.cell (p:=⟨w.heap.size + 1,5,none⟩) (show w.heap.size + 1 < w1.heap.size by omega)).trans d5
 have c6':w2.cell? ⟨w.heap.size,6,none⟩=some (.int .u64 x.mt):=(g2.cell (p:=⟨w.heap.size,6,none⟩) (show w.heap.size < w1.heap.size by omega)).trans c6
 have d6':w2.cell? ⟨w.heap.size + 1,6,none⟩=some (.int .u64 y.mt):=(g2.cell (p:=⟨w.heap.size + 1,6,none⟩) (show w.heap.size + 1 < w1.heap.size by omega)).trans d6
 have c7':w2.cell? ⟨w.heap.size,7,none⟩=some (.int .u64 x.mm):=(g2.cell (p:=⟨w.heap.size,7,none⟩) (show w.heap.size < w1.heap.size by omega)).trans c7
 have d7':w2.cell? ⟨w.heap.size + 1,7,none⟩=some (.int .u64 y.mm):=(g2.cell (p:=⟨w.heap.size + 1,7,none⟩) (show w.heap.size + 1 < w1.heap.size by omega)).trans d7
 have c8':w2.cell? ⟨w.heap.size,8,none⟩=some (.int .i64 x.met):=(g2.cell (p:=⟨w.heap.size,8,none⟩) (show w.heap.size < w1.heap.size by omega)).trans c8
 have d8':w2.cell? ⟨w.heap.size + 1,8,none⟩=some (.int .i64 y.met):=(g2.cell (p:=⟨w.heap.size + 1,8,none⟩) (show w.heap.size + 1 < w1.heap.size by omega)).trans d8
 have c9':w2.cell? ⟨w.heap.size,9,none⟩=some (.int .i64 x.go):=(g2.cell (p:=⟨w.heap.size,9,none⟩) (show w.heap.size < w1.heap.size by omega)).trans c9
 have d9':w2.cell? ⟨w.heap.size + 1,9,none⟩=some (.int .i64 y.go):=(g2.cell (p:=⟨w.heap.size + 1,9,none⟩) (show w.heap.size + 1 < w1.heap.size by omega)).trans d9
 clear c4 d4 c5 d5 c6 d6 c7 d7 c8 d8 c9 d9
 have G2:Below w.heap.size w w2:=btr G1 g2 (Nat.le_refl _)
 clear g2
 go_wp2_with fail
 all_goals
  go_ret
  refine ⟨ret_bool ?_,G2⟩
  rw [← HR.out]
  simp [*]
theorem sEnt_any (x y:En) (l k:List Mt.T) (w:World) (hx:EW w x) (hy:EW w y) (tx:Mt.Ts w x.ta l) (ty:Mt.Ts w y.ta k) (xl:x.tl=l.length) (yl:y.tl=k.length) (nx:l.length≤1000) (ny:k.length≤1000) :
    Calls Tryz.prog 26 #[enV x,enV y] w fun e w'=>e=.returned (.bool (sEnt x.pri l x.sp y.pri k y.sp))∧Below w.heap.size w w':=by
  have H1:Hid (∀ w1,Below w.heap.size w w1→Calls Tryz.prog 62 #[.slice x.ta x.tl x.tc,.slice y.ta y.tl y.tc] w1 fun e w'=>e=.returned (.bool (Mt.sameB l k))∧Below w1.heap.size w1 w'):=(show ∀ w1,_ from fun w1 g=>by
    rw [xl,yl]
    exact Mt.rsame_any x.ta l x.tc y.ta k y.tc w1 (tx.below g) (by omega) (ty.below g) (by omega))
  have H2:Hid (∀ w1,Below w.heap.size w w1→Calls Tryz.prog 63 #[enV x,enV y] w1 fun e w'=>e=.returned (.bool (sSp x.sp y.sp))∧Below w1.heap.size w1 w'):=(show ∀ w1,_ from fun w1 g=>sSp_any x y w1 (hx.below g) (hy.below g))
  have HR:Hid (sEnt x.pri l x.sp y.pri k y.sp=(x.pri == y.pri && Mt.sameB l k && sSp x.sp y.sp)):=(show _=_ from rfl)
  have HB:Hid (∀ w1,Below (ex (ex w x) y).heap.size (ex (ex w x) y) w1→Bn w1 w.heap.size x∧Bn w1 (w.heap.size + 1) y):=(show ∀ w1,_ from fun w1 g=>⟨((Bn.new w x).below (B:=w.heap.size + 1) (by omega) (by go_grown)).below (by simp;omega) g,by
    have:=Bn.new (ex w x) y
    have h2:Bn (ex (ex w x) y) (w.heap.size + 1) y:=by simpa using this
    exact h2.below (by simp) g⟩)
  rw [HR.out]
  clear hx hy tx ty xl yl nx ny HR
  generalize Mt.sameB l k=B1 at *
  generalize sSp x.sp y.sp=B2 at *
  cases hp:(x.pri == y.pri) with
  | false =>
    go_enter Tryz.func26,Tryz.ntmps26
    go_wp2_with fail
    go_ret
    exact ⟨rfl,by go_grown⟩
  | true =>
    cases B1 with
    | false =>
      go_enter Tryz.func26,Tryz.ntmps26
      go_wp2_with fail
      refine (H1.out _ (by go_grown)).mono ?_
      rintro r w1 ⟨rfl,g1⟩
      go_wp2_with fail
      go_ret
      exact ⟨rfl,btr (by go_grown) g1 (Nat.le_refl _)⟩
    | true =>
      go_enter Tryz.func26,Tryz.ntmps26
      go_wp2_with fail
      refine (H1.out _ (by go_grown)).mono ?_
      rintro r w1 ⟨rfl,g1⟩
      obtain ⟨⟨c0,c1,c2,c3,c4,c5,c6,c7,c8,c9⟩,d0,d1,d2,d3,d4,d5,d6,d7,d8,d9⟩:=HB.out _ g1
      have G1:Below w.heap.size w w1:=btr (by go_grown) g1 (Nat.le_refl _)
      clear g1
      go_wp2_with fail
      refine (H2.out _ G1).mono ?_
      rintro r w2 ⟨rfl,g2⟩
      have G2:=btr G1 g2 (Nat.le_refl _)
      clear c0 c1 c2 c3 c4 c5 c6 c7 c8 c9 d0 d1 d2 d3 d4 d5 d6 d7 d8 d9 g2
      go_wp2_with fail
      go_ret
      exact ⟨rfl,G2⟩
theorem sGrp_any (i k:Int) (ga:Option Addr) (l:List Bk) (gc:Nat) (j n:Int) (gb:Option Addr) (r:List Bk) (gd:Nat) (w:World) (hl:Bs w ga l) (hr:Bs w gb r) (nl:l.length≤100000) (nr:r.length≤100000) :
    Calls Tryz.prog 27 #[.agg #[.int .i64 i,.int .i64 k,.slice ga l.length gc],.agg #[.int .i64 j,.int .i64 n,.slice gb r.length gd]] w fun e w'=>e=.returned (.bool (sGrp i k (l.map Bk.b3) j n (r.map Bk.b3)))∧Below w.heap.size w w':=by
  have HS:Hid (∀ (x y:Bk) w1,BW w1 x→BW w1 y→Calls Tryz.prog 28 #[.slice x.a x.l.length x.c,.slice y.a y.l.length y.c] w1 fun e w'=>e=.returned (.bool (sameB x.l y.l))∧Below w1.heap.size w1 w'):=(show ∀ (x y:Bk) w1,_ from fun x y w1 hx hy=>same_any x.a y.a x.l y.l x.c y.c w1 hx.t hy.t hx.n hy.n)
  have HR:Hid (sGrp i k (l.map Bk.b3) j n (r.map Bk.b3)=(i == j && k == n && sBks (l.map Bk.b3) (r.map Bk.b3))):=(show _=_ from rfl)
  rw [HR.out]
  clear HR
  cases h1:(i == j) with
  | false =>
    have h1':(i != j)=true:=by rw [bne,h1];rfl
    clear HS hl hr
    go_enter Tryz.func27,Tryz.ntmps27
    go_wp2_with fail
    go_ret
    exact ⟨rfl,by go_grown⟩
  | true =>
    have h1':(i != j)=false:=by rw [bne,h1];rfl
    cases h2:(k == n) with
    | false =>
      have h2':(k != n)=true:=by rw [bne,h2];rfl
      clear HS hl hr
      go_enter Tryz.func27,Tryz.ntmps27
      go_wp2_with fail
      go_ret
      exact ⟨rfl,by go_grown⟩
    | true =>
      have h2':(k != n)=false:=by rw [bne,h2];rfl
      by_cases h3:l.length=r.length
      · have h3':((l.length:Int) != (r.length:Int))=false:=by simp [h3]
        obtain ⟨W2,hW2⟩:∃ W2,(w.alloc (.cells #[.int .i64 i,.int .i64 k,.slice ga l.length gc] 29)).alloc (.cells #[.int .i64 j,.int .i64 n,.slice gb r.length gd] 29)=W2:=⟨_,rfl⟩
        have G2:Below w.heap.size w W2:=by rw [← hW2];go_grown
        have z2:W2.heap.size=w.heap.size + 2:=by rw [← hW2];simp
        have x2:W2.cell? ⟨w.heap.size,2,none⟩=some (.slice ga l.length gc):=by rw [← hW2];simp
        have y2:W2.cell? ⟨w.heap.size + 1,2,none⟩=some (.slice gb r.length gd):=by
          rw [← hW2]
          simp
        have HX:Hid (∀ w',Below W2.heap.size W2 w'→w.heap.size + 1 < w'.heap.size∧w'.cell? ⟨w.heap.size,2,none⟩=some (.slice ga l.length gc)∧w'.cell? ⟨w.heap.size + 1,2,none⟩=some (.slice gb r.length gd)):=(show ∀ w',_ from fun w' g=>⟨by have:=g.size;omega,(g.cell (p:=⟨w.heap.size,2,none⟩) (show w.heap.size < W2.heap.size by omega)).trans x2,(g.cell (p:=⟨w.heap.size + 1,2,none⟩) (show w.heap.size + 1 < W2.heap.size by omega)).trans y2⟩)
        have HL:Hid (Bs W2 ga l):=(show Bs _ _ _ from hl.below G2)
        have HRr:Hid (Bs W2 gb r):=(show Bs _ _ _ from hr.below G2)
        have HG2:Hid (Below w.heap.size w W2):=G2
        have HGo:Hid (∀ w',Below W2.heap.size W2 w'→Below w.heap.size w w'):=(show ∀ w',_ from fun w' g=>btr G2 g (Nat.le_refl _))
        have HBad:Hid (∀ q (hq:q < l.length) (hq2:q < r.length),sBk l[q].b3 r[q].b3=false→sBks (l.map Bk.b3) (r.map Bk.b3)=false):=(show ∀ q (hq:q < l.length) (hq2:q < r.length),_ from fun q hq hq2 hf=>sBks_at _ _ q (by simpa using hq) (by simpa using hq2) (by simpa using hf))
        have HAll:Hid ((∀ q (hq:q < l.length) (hq2:q < r.length),sBk l[q].b3 r[q].b3=true)→sBks (l.map Bk.b3) (r.map Bk.b3)=true):=(show (∀ q (hq:q < l.length) (hq2:q < r.length),sBk l[q].b3 r[q].b3=true)→_ from fun hh=>sBks_all _ _ (by simpa using h3) (fun q hq hq2=>by simpa using hh q (by simpa using hq) (by simpa using hq2)))
        have HW2:Hid ((w.alloc (.cells #[.int .i64 i,.int .i64 k,.slice ga l.length gc] 29)).alloc (.cells #[.int .i64 j,.int .i64 n,.slice gb r.length gd] 29)=W2):=hW2
        have H3:Hid (l.length=r.length):=h3
        clear hW2 G2 z2 hl hr h1 h2 h3
        go_enter Tryz.func27,Tryz.ntmps27
        go_wp2_with fail
        rw [HW2.out]
        clear x2 y2
        go_loopw [5] (fun v wr=>∃ q:Nat,q≤l.length∧v=.int .i64 q∧Hid (∀ p (hp:p < l.length) (hp2:p < r.length),p < q→sBk l[p].b3 r[p].b3=true)∧Below W2.heap.size W2 wr) (fun v _=>l.length - (intOf v).toNat)
        case atStart=>exact ⟨0,Nat.zero_le _,rfl,(show ∀ p (hp:p < l.length) (hp2:p < r.length),p < 0→_ from fun p _ _ h=>by omega),Below.refl _ _⟩
        case round =>
          obtain ⟨q,hq,rfl,HP,hbel⟩:=hrel
          obtain ⟨zr,x2,y2⟩:=HX.out _ hbel
          by_cases hlt:q < l.length
          · have hlt2:q < r.length:=by have:=H3.out;omega
            have hT:=HL.out.below hbel
            have hU:=HRr.out.below hbel
            obtain ⟨g,o,rfl,hg,hc⟩:=hT.at hlt
            obtain ⟨g2,o2,rfl,hg2,hc2⟩:=hU.at hlt2
            obtain ⟨c0,c1,c2⟩:=hc q hlt
            obtain ⟨d0,d1,d2⟩:=hc2 q hlt2
            have hWx:=hT.1 l[q] (List.getElem_mem hlt)
            have hWy:=hU.1 r[q] (List.getElem_mem hlt2)
            have HSq:Hid (∀ w',Below wr.heap.size wr w'→Calls Tryz.prog 28 #[.slice l[q].a l[q].l.length l[q].c,.slice r[q].a r[q].l.length r[q].c] w' fun e w''=>e=.returned (.bool (sameB l[q].l r[q].l))∧Below w'.heap.size w' w''):=(show ∀ w',_ from fun w' gw=>HS.out l[q] r[q] w' (hWx.below gw) (hWy.below gw))
            have HBq:Hid (sBk l[q].b3 r[q].b3=false→sBks (l.map Bk.b3) (r.map Bk.b3)=false):=HBad.out q hlt hlt2
            have HNq:Hid (sBk l[q].b3 r[q].b3=true→∀ p (hp:p < l.length) (hp2:p < r.length),p < q + 1→sBk l[p].b3 r[p].b3=true):=(show _→_ from fun hh p hp hp2 hpq=>by
              by_cases e:p=q
              · subst e;exact hh
              · exact HP.out p hp hp2 (by omega))
            have HBk:Hid (sBk l[q].b3 r[q].b3=(l[q].wa == r[q].wa && l[q].we == r[q].we && sameB l[q].l r[q].l)):=(show _=_ from rfl)
            have HCo:Hid (∀ w',Below wr.heap.size wr w'→Below W2.heap.size W2 w'):=(show ∀ w',_ from fun w' gw=>btr hbel gw (Nat.le_refl _))
            clear hc hc2 hT hU hWx hWy
            generalize l[q]=X at *
            generalize r[q]=Y at *
            cases e1:(X.wa == Y.wa) with
            | false =>
              have e1':(X.wa != Y.wa)=true:=by rw [bne,e1];rfl
              have f:sBk X.b3 Y.b3=false:=by rw [HBk.out,e1];rfl
              have HF:Hid (sBks (l.map Bk.b3) (r.map Bk.b3)=false):=HBq.out f
              clear f e1
              go_wp2_with fail
              go_ret
              exact ⟨by rw [HF.out];rfl,HGo.out _ (HCo.out _ (by go_grown))⟩
            | true =>
              have e1':(X.wa != Y.wa)=false:=by rw [bne,e1];rfl
              cases e2:(X.we == Y.we) with
              | false =>
                have e2':(X.we != Y.we)=true:=by rw [bne,e2];rfl
                have f:sBk X.b3 Y.b3=false:=by rw [HBk.out,e1,e2];rfl
                have HF:Hid (sBks (l.map Bk.b3) (r.map Bk.b3)=false):=HBq.out f
                clear f e1 e2
                go_wp2_with fail
                go_ret
                exact ⟨by rw [HF.out];rfl,HGo.out _ (HCo.out _ (by go_grown))⟩
              | true =>
                have e2':(X.we != Y.we)=false:=by rw [bne,e2];rfl
                cases e3:sameB X.l Y.l with
                | false =>
                  have f:sBk X.b3 Y.b3=false:=by rw [HBk.out,e1,e2,e3];rfl
                  rw [e3] at HSq
                  have HF:Hid (sBks (l.map Bk.b3) (r.map Bk.b3)=false):=HBq.out f
                  clear f e1 e2 e3
                  go_wp2_with fail
                  refine (HSq.out _ (by go_grown)).mono ?_
                  rintro v w1 ⟨rfl,g1⟩
                  have b1:Below wr.heap.size wr w1:=btr (by go_grown) g1 (Nat.le_refl _)
                  clear g1
                  go_wp2_with fail
                  go_ret
                  exact ⟨by rw [HF.out];rfl,HGo.out _ (HCo.out _ b1)⟩
                | true =>
                  have f:sBk X.b3 Y.b3=true:=by rw [HBk.out,e1,e2,e3];rfl
                  have HN':Hid (∀ p (hp:p < l.length) (hp2:p < r.length),p < q + 1→sBk l[p].b3 r[p].b3=true):=HNq.out f
                  rw [e3] at HSq
                  clear f e1 e2 e3
                  go_wp2_with fail
                  refine (HSq.out _ (by go_grown)).mono ?_
                  rintro v w1 ⟨rfl,g1⟩
                  have b1:Below wr.heap.size wr w1:=btr (by go_grown) g1 (Nat.le_refl _)
                  have B1:=HCo.out _ b1
                  clear g1
                  go_wp2_with fail
                  go_roundw
                  case rel=>exact ⟨q + 1,by omega,by go_num,HN',B1⟩
                  case measure=>simp [intOf];omega
          · have hq':q=l.length:=by omega
            have f:=HAll.out (fun p hp hp2=>HP.out p hp hp2 (by omega))
            have HF:Hid (sBks (l.map Bk.b3) (r.map Bk.b3)=true):=f
            clear f
            go_wp2_with fail
            go_ret
            exact ⟨by rw [HF.out];rfl,HGo.out _ hbel⟩
      · have h3':((l.length:Int) != (r.length:Int))=true:=by simp;omega
        have f:sBks (l.map Bk.b3) (r.map Bk.b3)=false:=sBks_len _ _ (by simpa using h3)
        rw [f]
        clear HS hl hr f
        go_enter Tryz.func27,Tryz.ntmps27
        go_wp2_with fail
        go_ret
        exact ⟨rfl,by go_grown⟩
theorem eqMr (a b c x y z:Int) (w:World):(binOp .eql 40 (.agg #[.int .i64 a,.int .i64 b,.int .i64 c]) (.agg #[.int .i64 x,.int .i64 y,.int .i64 z])).run Tryz.prog w=.ok (.bool (sMet a b c x y z)) w:=by
 have u3:=Tryz.underlying3
 have a3:=Tryz.isAgg3
 have z3:=Tryz.sizeOf3
 have hS:Tryz.prog.underlying 40=some (.struct (Tryz.prog.fieldsOf 40)):=by kernel_rfl
 have hp:Tryz.prog.stoodInHeld 40=false:=by kernel_rfl
 rw [run_eql_struct,show (10000:Nat)=9999 + 1 from rfl,run_equalIn_agg w 9999 40 _ _ hS hp]
 simp only [Program.fieldsOf,Tryz.underlying40]
 go_simp
 unfold sMet
 by_cases h1:a=x <;> by_cases h2:b=y <;> by_cases h3:c=z <;> simp [h1,h2,h3]
theorem guMr (op:BinOp) (x y:Operand) (u v:Array Value) (w:World):(eqGuard op 40 x y (.agg u) (.agg v)).run Tryz.prog w=.ok () w:=run_eqGuard_agg w op 40 x y _ _ (by kernel_rfl)
theorem plain_M (m:Ms) (w:World):Calls Tryz.prog 12 #[msV m] w fun e w'=>e=.returned (msV m)∧Below w.heap.size w w':=by
 have HG:Hid (∀ c d:Array Value,Below w.heap.size w ((w.alloc (.cells c 33)).alloc (.cells d 42))):=(show ∀ c d:Array Value,_ from fun c d=>by go_grown)
 go_enter Tryz.func12,Tryz.ntmps12
 go_wp2_with (refine store_R rfl (.tmp 2) (.tmp 37) rfl (w.heap.size + 1) m rfl rfl (there_two _ _ _ _ _) ?_;intro V bV tV oV;have GV:=oV.belowK (by omega) (HG.out _ _);clear oV tV)
 refine bodyPost_ret (resR (b:=w.heap.size + 1) (m:=m) rfl rfl bV) rfl ?_
 exact ⟨rfl,GV⟩
theorem two_R (w:World) (m n:Ms):Bm (rx (rx w m) n) w.heap.size m∧Bm (rx (rx w m) n) (w.heap.size + 1) n:=by
 refine ⟨range_two w (msC m) (msC n) _ _,?_⟩
 have h:=range_new (rx w m) (msC n) 42
 simpa [Bm] using h
theorem cs14 {w:World} {b:Nat} {m:Ms} (h:Bm w b m):w.cell? ⟨b,14,none⟩=some (.int .i64 m.gid)∧w.cell? ⟨b,15,none⟩=some (.int .i64 m.gkd)∧w.cell? ⟨b,16,none⟩=some (.slice m.ga m.gb.length m.gc):=⟨h 14 _ rfl,h 15 _ rfl,h 16 _ rfl⟩
theorem cs17 {w:World} {b:Nat} {m:Ms} (h:Bm w b m):w.cell? ⟨b,17,none⟩=some (.int .i64 m.mid)∧w.cell? ⟨b,18,none⟩=some (.int .i64 m.mra)∧w.cell? ⟨b,19,none⟩=some (.int .i64 m.mbu)∧w.cell? ⟨b,20,none⟩=some (.int .i64 m.typ)∧w.cell? ⟨b,21,none⟩=some (.int .i64 m.cod)∧w.cell? ⟨b,22,none⟩=some (.int .i64 m.prt)∧w.cell? ⟨b,23,none⟩=some (.bool m.live)∧w.cell? ⟨b,24,none⟩=some (.slice m.aa m.la.length m.ca):=⟨h 17 _ rfl,h 18 _ rfl,h 19 _ rfl,h 20 _ rfl,h 21 _ rfl,h 22 _ rfl,h 23 _ rfl,h 24 _ rfl⟩
theorem sm_set (m n:Ms) (w:World) (hm:MW w m) (hn:MW w n):(Hid (∀ w1,Below w.heap.size w w1→Calls Tryz.prog 26 #[enV m.en,enV n.en] w1 fun e w'=>e=.returned (.bool (sEnt m.en.pri m.ts m.en.sp n.en.pri n.ts n.en.sp))∧Below w1.heap.size w1 w'))∧(Hid (∀ w1,Below w.heap.size w w1→Calls Tryz.prog 27 #[.agg #[.int .i64 m.gid,.int .i64 m.gkd,.slice m.ga m.gb.length m.gc],.agg #[.int .i64 n.gid,.int .i64 n.gkd,.slice n.ga n.gb.length n.gc]] w1 fun e w'=>e=.returned (.bool (sGrp m.gid m.gkd (m.gb.map Bk.b3) n.gid n.gkd (n.gb.map Bk.b3)))∧Below w1.heap.size w1 w'))∧(Hid (∀ w1,Below w.heap.size w w1→Calls Tryz.prog 28 #[.slice m.aa m.la.length m.ca,.slice n.aa n.la.length n.ca] w1 fun e w'=>e=.returned (.bool (sameB m.la n.la))∧Below w1.heap.size w1 w'))∧∃ W2,Below w.heap.size w W2∧(Hid (∀ w1,Below W2.heap.size W2 w1→Bm w1 w.heap.size m∧Bm w1 (w.heap.size + 1) n))∧(Hid ((w.alloc (.cells #[.int .i64 m.kind,.int .i64 m.xid,.int .i64 m.cmd,.bool m.chk,.int .i64 m.en.tab,.int .i64 m.en.pri,.slice m.en.ta m.en.tl m.en.tc,.slice m.en.aa m.en.la.length m.en.ca,.slice m.en.aw m.en.lw.length m.en.cw,.bool m.en.clr,.int .u64 m.en.mt,.int .u64 m.en.mm,.int .i64 m.en.met,.int .i64 m.en.go,.int .i64 m.gid,.int .i64 m.gkd,.slice m.ga m.gb.length m.gc,.int .i64 m.mid,.int .i64 m.mra,.int .i64 m.mbu,.int .i64 m.typ,.int .i64 m.cod,.int .i64 m.prt,.bool m.live,.slice m.aa m.la.length m.ca,.string m.dat] 42)).alloc (.cells #[.int .i64 n.kind,.int .i64 n.xid,.int .i64 n.cmd,.bool n.chk,.int .i64 n.en.tab,.int .i64 n.en.pri,.slice n.en.ta n.en.tl n.en.tc,.slice n.en.aa n.en.la.length n.en.ca,.slice n.en.aw n.en.lw.length n.en.cw,.bool n.en.clr,.int .u64 n.en.mt,.int .u64 n.en.mm,.int .i64 n.en.met,.int .i64 n.en.go,.int .i64 n.gid,.int .i64 n.gkd,.slice n.ga n.gb.length n.gc,.int .i64 n.mid,.int .i64 n.mra,.int .i64 n.mbu,.int .i64 n.typ,.int .i64 n.cod,.int .i64 n.prt,.bool n.live,.slice n.aa n.la.length n.ca,.string n.dat] 42)=W2)):=by
 refine ⟨(show ∀ w1,_ from fun w1 g=>sEnt_any m.en n.en m.ts n.ts w1 (hm.e.below g) (hn.e.below g) (hm.t.below g) (hn.t.below g) hm.tl hn.tl hm.tn hn.tn),(show ∀ w1,_ from fun w1 g=>sGrp_any m.gid m.gkd m.ga m.gb m.gc n.gid n.gkd n.ga n.gb n.gc w1 (hm.g.below g) (hn.g.below g) hm.gn hn.gn),(show ∀ w1,_ from fun w1 g=>same_any m.aa n.aa m.la n.la m.ca n.ca w1 (hm.a.below g) (hn.a.below g) hm.an hn.an),?_⟩
 obtain ⟨W2,hW2⟩:∃ W2,rx (rx w m) n=W2:=⟨_,rfl⟩
 exact ⟨W2,by rw [← hW2];go_grown,(show ∀ w1,_ from fun w1 g=>⟨(hW2 ▸ (two_R w m n).1:Bm W2 w.heap.size m).below (by rw [← hW2];simp;omega) g,(hW2 ▸ (two_R w m n).2:Bm W2 (w.heap.size + 1) n).below (by rw [← hW2];simp) g⟩),hW2⟩
end Go.Proofs.YtlcbfdiohcbpbaaGreatDoor

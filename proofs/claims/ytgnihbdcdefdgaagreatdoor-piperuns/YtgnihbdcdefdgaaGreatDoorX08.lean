import Derived.Test.YtgnihbdcdefdgaaGreatDoorX07
import Derived.Test.YtgnihbdcdefdgaaGreatDoorX05
import Derived.Laws.AppendOwn
import Derived.Laws.OwnMore
import Derived.Lib.AppendZeros
import Derived.Deep.Upon
set_option maxHeartbeats 8000000
set_option maxRecDepth 20000
open Go.ChangeShapes Go.WideShapes Go.ChangeAt Go.RowKit
open Go.Proofs.Tryz
namespace Go.Proofs.YtgnihbdcdefdgaaGreatDoor
namespace Sr
theorem sym_any (b len cap:Nat) (hd:len≤1000):∀ n,SymC b len cap n:=by
 intro n;induction n with
 | zero=>intro a m c d w h;omega
 | succ n ih =>
   intro a m c d w h hr hW hl h1 h2 h3 sa sb;by_cases c1:m=a+1
   ·have:=sym_left b a m c d cap w hr hW (by omega) c1 h2 (by omega) sb;rw[hl]at this;exact this
   ·by_cases c2:c=m+1
    ·have:=sym_right b a m c d cap w hr hW (by omega) (by omega) c2 (by omega) sa;rw[hl]at this;exact this
    ·have hrec:SymC b d.length cap (c-a):=fun a' m' c' d' w' h'=>by
      rw[hl];exact ih a' m' c' d' w' (by omega)
     by_cases c3:(a+c)/2<m
     ·have:=sym_up b a m c _ d cap w hr hW (by omega) (by omega) (by omega) (by omega) sa sb rfl c3 hrec;rw[hl]at this;exact this
     ·have:=sym_dn b a m c _ d cap w hr hW (by omega) (by omega) (by omega) (by omega) sa sb rfl c3 hrec;rw[hl]at this;exact this
def BS (s x n:Nat) (d:List A):Prop:=∀ c i j,s∣c→x≤c→c≤i→i<j→j<c+s→j<n→ka kap d i≤ka kap d j
theorem mult_gap {s a c:Nat} (h1:s∣a) (h2:s∣c) (h:c<a):c+s≤a:=by
 have:=Nat.le_of_dvd (by omega) (Nat.dvd_sub h1 h2);omega
theorem bs_step {s a e:Nat} {d d':List A} (hs:s∣a) (h:BS s 0 a d) (r:Rel kap a e d d') (g:Srt kap a e d') (he:e≤a+s):BS s 0 e d':=by
 intro c i j h1 h2 h3 h4 h5 h6;by_cases q:c<a
 ·have:=mult_gap hs h1 q;rw[r.ka i (by omega),r.ka j (by omega)];exact h c i j h1 h2 h3 h4 h5 (by omega)
 ·by_cases q2:c=a
  ·subst q2;exact g i j h3 h4 h6
  ·have:=mult_gap h1 hs (by omega);omega
theorem bs_later {s a e n:Nat} {d d':List A} (h:BS s a n d) (r:Rel kap a e d d') (ha:a≤e):BS s e n d':=by
 intro c i j h1 h2 h3 h4 h5 h6;rw[r.ka i (by omega),r.ka j (by omega)];exact h c i j h1 (by omega) h3 h4 h5 h6
theorem bs_srt {s a n e:Nat} {d:List A} (h:BS s a n d) (c:Nat) (hs:s∣c) (hc:a≤c) (he:e≤c+s) (hn:e≤n):Srt kap c e d:=fun i j h1 h2 h3=>h c i j hs hc h1 h2 (by omega) (by omega)
theorem stable_any (b:Nat) (d:List A) (cap n:Nat) (hn:n=d.length) (w:World) (hr:Rw w b d) (hW:AWs d) (hd:n≤1000) :
 Calls prog 152 #[.slice (some ⟨b,0,none⟩) n cap,.int .i64 n,fvP] w fun e w'=>e=.returned (.tuple #[])∧Rw w' b (isort kap d)∧Below b w w':=by
 have HR:Hid (Rw w b d):=hr;have HWs:Hid (AWs d):=hW;have HI:Hid (∀ (a c:Nat) (dk:List A) w,Rw w b dk→AWs dk→dk.length=n→a≤c→c≤n→Calls prog 204 #[.slice (some ⟨b,0,none⟩) n cap,.int .i64 a,.int .i64 c,fvP] w fun e w'=>e=.returned (.tuple #[])∧∃ d',Rel kap a c dk d'∧Srt kap a c d'∧Rw w' b d'∧Below b w w') :=
  (show ∀ _,_ from fun a c dk w x1 x2 x3 x4 x5=>by have:=insertion_any b a c dk cap w x1 x2 (by omega) x4 (by omega);rw[x3]at this;exact this)
 have HM:Hid (∀ (a m c:Nat) (dk:List A) w,Rw w b dk→AWs dk→dk.length=n→a<m→m<c→c≤n→Srt kap a m dk→Srt kap m c dk→Calls prog 205 #[.slice (some ⟨b,0,none⟩) n cap,.int .i64 a,.int .i64 m,.int .i64 c,fvP] w fun e w'=>e=.returned (.tuple #[])∧∃ d',Rel kap a c dk d'∧Srt kap a c d'∧Rw w' b d'∧Below b w w') :=
  (show ∀ _,_ from fun a m c dk w x1 x2 x3 x4 x5 x6 x7 x8=>sym_any b n cap hd (c-a+1) a m c dk w (by omega) x1 x2 x3 x4 x5 x6 x7 x8)
 have HL:Hid (n=d.length):=hn;clear hr hW hn;go_enter func152,ntmps152;go_wp2_with fail;go_loopw [7,8] (fun va vb wr=>∃ (a:Nat) (dk:List A),va=.int .i64 a∧vb=.int .i64 ((a:Int)+20)∧a≤n∧Hid (20∣a)∧Hid (BS 20 0 a dk)∧Hid (Rel kap 0 n d dk)∧Hid (Rw wr b dk)∧Below b w wr) (fun va _ _=>n-(intOf va).toNat);case atStart=>exact⟨0,d,rfl,rfl,Nat.zero_le _,(show 20∣0 from Nat.dvd_zero _),(show BS 20 0 0 d from fun c i j _ _ _ _ _ h=>by omega),(show Rel kap 0 n d d from Rel.refl _ _ _),HR,Below.refl _ _⟩
 case round =>
  clear HR;obtain⟨a,dk,rfl,rfl,han,HDv,HBS,HRel,HK,hbel⟩:=hrel;have hlk:Hid (dk.length=n):=(show dk.length=n by rw[HRel.out.len];exact HL.out.symm)
  have haw:Hid (AWs dk):=(show AWs dk from HRel.out.cl.aws HWs.out)
  by_cases hlt:a+20≤n
  ·have z1:(a:Int)+20≤(n:Int):=by omega
   obtain⟨B,hB⟩:∃ B,a+20=B:=⟨_,rfl⟩
   have eB:(a:Int)+20=(B:Int):=by omega
   have HB:Hid (a+20=B):=hB;have lB:B≤n:=by omega
   have laB:a≤B:=by omega
   rw[eB]at z1 ⊢;clear hB;go_wp2_with fail;refine(HI.out a B dk wr HK.out haw.out hlk.out laB lB).mono ?_;rintro r w1 ⟨rfl,d',x1,x2,x3,x4⟩;go_wp2_with fail;go_roundw;case rel =>
    have hb:=HB.out;subst hb;exact⟨a+20,d',by first|rfl|go_num,by first|rfl|go_num,by omega,(show 20∣a+20 from Nat.dvd_add HDv.out (Nat.dvd_refl _)),(show BS 20 0 (a+20) d' from bs_step HDv.out HBS.out x1 x2 (Nat.le_refl _)),(show Rel kap 0 n d d' from HRel.out.trans (x1.mono (Nat.zero_le _) lB)),x3,btr' hbel x4⟩
   case measure=>simp[intOf];omega
  ·have z1 : ¬ (a:Int)+20≤(n:Int):=by omega
   go_wp2_with fail;refine(HI.out a n dk wr HK.out haw.out hlk.out han (Nat.le_refl _)).mono ?_;rintro r w1 ⟨rfl,d0,x1,x2,x3,x4⟩;have HB0:Hid (BS 20 0 n d0):=(show BS 20 0 n d0 from bs_step HDv.out HBS.out x1 x2 (by omega))
   have HR0:Hid (Rel kap 0 n d d0):=(show Rel kap 0 n d d0 from HRel.out.trans (x1.mono (Nat.zero_le _) (Nat.le_refl _)))
   have HK0:Hid (Rw w1 b d0):=x3;have hbel0:Below b w w1:=btr' hbel x4;clear x1 x2 x3 x4 hbel HK HRel HBS HDv hlk haw z1;go_wp2_with fail;go_loopw [6,7,8] (fun vs _ _ wr=>∃ (s:Nat) (dk:List A),vs=.int .i64 s∧20≤s∧s≤2000∧Hid (BS s 0 n dk)∧Hid (Rel kap 0 n d dk)∧Hid (Rw wr b dk)∧Below b w wr) (fun vs _ _ _=>n-(intOf vs).toNat);case atStart=>exact⟨20,d0,rfl,by omega,by omega,HB0,HR0,HK0,hbel0⟩
   case round =>
    clear HB0 HR0 HK0 hbel0;obtain⟨s,dk,rfl,hs1,hs2,HBS,HRel,HK,hbel⟩:=hrel;by_cases hsn:s<n
    ·have z2:(s:Int)<(n:Int):=by omega
     have HBR0:Hid (BS s 0 n dk):=HBS;have HBT0:Hid (BS (2*s) 0 0 dk):=(show BS (2*s) 0 0 dk from fun c i j _ _ _ _ _ h=>by omega)
     clear HBS;go_wp2_with fail;go_loopw [7,8] (fun va vb wr=>∃ (a:Nat) (dk:List A),va=.int .i64 a∧vb=.int .i64 ((a:Int)+2*(s:Int))∧a≤n∧Hid (2*s∣a)∧Hid (BS (2*s) 0 a dk)∧Hid (BS s a n dk)∧Hid (Rel kap 0 n d dk)∧Hid (Rw wr b dk)∧Below b w wr) (fun va _ _=>n-(intOf va).toNat);case atStart=>exact⟨0,dk,rfl,by first|rfl|(congr 1;omega),Nat.zero_le _,(show 2*s∣0 from Nat.dvd_zero _),HBT0,HBR0,HRel,HK,hbel⟩
     case round =>
      clear HBT0 HBR0 HRel HK hbel;obtain⟨a,dk,rfl,rfl,han,HDv,HBT,HBS,HRel,HK,hbel⟩:=hrel;have hlk:Hid (dk.length=n):=(show dk.length=n by rw[HRel.out.len];exact HL.out.symm)
      have haw:Hid (AWs dk):=(show AWs dk from HRel.out.cl.aws HWs.out)
      have hda:Hid (s∣a):=(show s∣a from Nat.dvd_trans (Nat.dvd_mul_left s 2) HDv.out)
      by_cases hlt:a+2*s≤n
      ·have z3:(a:Int)+2*(s:Int)≤(n:Int):=by omega
       obtain⟨B,hB⟩:∃ B,a+2*s=B:=⟨_,rfl⟩
       have eB:(a:Int)+2*(s:Int)=(B:Int):=by omega
       obtain⟨M,hM⟩:∃ M,a+s=M:=⟨_,rfl⟩
       have eM:(a:Int)+(s:Int)=(M:Int):=by omega
       have HB:Hid (a+2*s=B):=hB;have HMM:Hid (a+s=M):=hM;have lB:B≤n:=by omega
       have laM:a<M:=by omega
       have lMB:M<B:=by omega
       have S1:Hid (Srt kap a M dk):=(show Srt kap a M dk from bs_srt HBS.out a hda.out (Nat.le_refl _) (by omega) (by omega))
       have S2:Hid (Srt kap M B dk):=(show Srt kap M B dk from bs_srt HBS.out M (by rw[← hM];exact Nat.dvd_add hda.out (Nat.dvd_refl _)) (by omega) (by omega) lB)
       rw[eB]at z3 ⊢;clear hB hM;go_wp2_with fail;refine(HM.out a M B dk wr HK.out haw.out hlk.out laM lMB lB S1.out S2.out).mono ?_;rintro r w2 ⟨rfl,d',x1,x2,x3,x4⟩;go_wp2_with fail;go_roundw;case rel =>
        have hb:=HB.out;subst hb;exact⟨a+2*s,d',by first|rfl|go_num,by first|rfl|go_num,lB,(show 2*s∣a+2*s from Nat.dvd_add HDv.out (Nat.dvd_refl _)),(show BS (2*s) 0 (a+2*s) d' from bs_step HDv.out HBT.out x1 x2 (Nat.le_refl _)),(show BS s (a+2*s) n d' from bs_later HBS.out x1 (by omega)),(show Rel kap 0 n d d' from HRel.out.trans (x1.mono (Nat.zero_le _) lB)),x3,btr' hbel x4⟩
       case measure=>simp[intOf];omega
      ·have z3 : ¬ (a:Int)+2*(s:Int)≤(n:Int):=by omega
       obtain⟨M,hM⟩:∃ M,a+s=M:=⟨_,rfl⟩
       have eM:(a:Int)+(s:Int)=(M:Int):=by omega
       have laM:a<M:=by omega
       have e2s:(s:Int)*2=((2*s:Nat):Int):=by omega
       by_cases hMn:M<n
       ·have z4:(M:Int)<(n:Int):=by omega
        have S1:Hid (Srt kap a M dk):=(show Srt kap a M dk from bs_srt HBS.out a hda.out (Nat.le_refl _) (by omega) (by omega))
        have S2:Hid (Srt kap M n dk):=(show Srt kap M n dk from bs_srt HBS.out M (by rw[← hM];exact Nat.dvd_add hda.out (Nat.dvd_refl _)) (by omega) (by omega) (Nat.le_refl _))
        clear hM;go_wp2_with fail;refine(HM.out a M n dk wr HK.out haw.out hlk.out laM hMn (Nat.le_refl _) S1.out S2.out).mono ?_;rintro r w2 ⟨rfl,d',x1,x2,x3,x4⟩;go_wp2_with fail;go_roundw;case rel=>exact⟨2*s,d',by first|rfl|go_num|(congr 1;omega),by omega,by omega,(show BS (2*s) 0 n d' from bs_step HDv.out HBT.out x1 x2 (by omega)),(show Rel kap 0 n d d' from HRel.out.trans (x1.mono (Nat.zero_le _) (Nat.le_refl _))),x3,btr' hbel x4⟩
        case measure=>simp[intOf];omega
       ·have z4 : ¬ (M:Int)<(n:Int):=by omega
        have S1:Hid (Srt kap a n dk):=(show Srt kap a n dk from bs_srt HBS.out a hda.out (Nat.le_refl _) (by omega) (Nat.le_refl _))
        clear hM;go_wp2_with fail;go_roundw;case rel=>exact⟨2*s,dk,by first|rfl|go_num|(congr 1;omega),by omega,by omega,(show BS (2*s) 0 n dk from bs_step HDv.out HBT.out (Rel.refl _ _ _) S1.out (by omega)),HRel,HK,hbel⟩
        case measure=>simp[intOf];omega
    ·have z2 : ¬ (s:Int)<(n:Int):=by omega
     go_wp2_with fail;go_end0;have hs:Srt kap 0 dk.length dk:=by
      have e:dk.length=n:=by rw[HRel.out.len];exact HL.out.symm
      rw[e];exact bs_srt HBS.out 0 (Nat.dvd_zero _) (Nat.le_refl _) (by omega) (Nat.le_refl _)
     refine⟨rfl,?_,hbel⟩;rw[← sorted_is HRel.out.cl hs];exact HK.out
theorem sortStable_any (b:Nat) (d:List A) (cap n:Nat) (hn:n=d.length) (w:World) (hr:Rw w b d) (hW:AWs d) (hd:n≤1000) :
 Calls prog 110 #[.slice (some ⟨b,0,none⟩) n cap,fvP] w fun e w'=>e=.returned (.tuple #[])∧Rw w' b (isort kap d)∧Below b w w':=by
 have HS:=stable_any b d cap n hn w hr hW hd;have HS2:Hid (Calls prog 152 #[.slice (some ⟨b,0,none⟩) n cap,.int .i64 n,fvP] w fun e w'=>e=.returned (.tuple #[])∧Rw w' b (isort kap d)∧Below b w w'):=HS;clear HS hr hW hn;go_enter func110,ntmps110;go_wp2_with fail;refine HS2.out.mono ?_;rintro r w1 ⟨rfl,k1,k2⟩;go_wp2_with fail;go_end0;exact⟨rfl,k1,k2⟩
theorem sortStable_none (a:Option Addr) (cap:Nat) (w:World) :
 Calls prog 110 #[.slice a 0 cap,fvP] w fun e w'=>e=.returned (.tuple #[])∧w'=w:=by
 go_enter func110,ntmps110;go_wp2;go_rounds 1;go_rounds 1;go_rounds 1;go_end0;exact⟨rfl,rfl⟩
def flat (l:List A):List Value:=l.flatMap fun t=>[.int .i64 t.1,.int .i64 t.2.1,.int .u64 t.2.2]
theorem flat_length:∀ l:List A,(flat l).length=l.length*3
 | []=>rfl
 | t::l=>by simp only[flat,List.flatMap_cons,List.length_append,List.length_cons,List.length_nil];have:=flat_length l;unfold flat at this;rw[this];omega
theorem flat_append (l m:List A):flat (l++m)=flat l++flat m:=by simp[flat]
theorem flat_at:∀ (l:List A) (i:Nat) (h:i<l.length),(flat l)[i*3]? = some (.int .i64 l[i].1)∧(flat l)[i*3+1]? = some (.int .i64 l[i].2.1)∧(flat l)[i*3+2]? = some (.int .u64 l[i].2.2)
 | t::l,0,_=>by simp[flat]
 | t::l,i+1,h=>by
   have ih:=flat_at l i (by simpa using h);unfold flat at ih ⊢;rw[List.flatMap_cons,show(i+1)*3=i*3+3 by omega];simpa using ih
theorem flat_cell (l:List A) (j:Nat) (u:Value) (h:(flat l)[j]? = some u):∃ i,∃ hi:i<l.length,(j=i*3∧u=.int .i64 l[i].1)∨(j=i*3+1∧u=.int .i64 l[i].2.1)∨(j=i*3+2∧u=.int .u64 l[i].2.2):=by
 have hj:j<(flat l).length:=by
  rcases Nat.lt_or_ge j (flat l).length with h'|h'
  ·exact h'
  ·rw[List.getElem?_eq_none h']at h;cases h
 rw[flat_length]at hj;have hi:j/3<l.length:=by omega
 obtain⟨x0,x1,x2⟩:=flat_at l (j/3) hi;refine⟨j/3,hi,?_⟩;have:j % 3=0∨j % 3=1∨j % 3=2:=by omega
 rcases this with q|q|q
 ·have e:j=j/3*3:=by omega
  refine .inl ⟨e,?_⟩;rw[← e]at x0;exact Option.some.inj (h.symm.trans x0)
 ·have e:j=j/3*3+1:=by omega
  refine .inr (.inl ⟨e,?_⟩);rw[← e]at x1;exact Option.some.inj (h.symm.trans x1)
 ·have e:j=j/3*3+2:=by omega
  refine .inr (.inr ⟨e,?_⟩);rw[← e]at x2;exact Option.some.inj (h.symm.trans x2)
theorem flat_one (l:List A):∀ u∈flat l,u.oneCell'=true:=by
 intro u hu;unfold flat at hu;rw[List.mem_flatMap]at hu;obtain⟨t,_,ht⟩:=hu;simp at ht;rcases ht with rfl|rfl|rfl<;>rfl
theorem infoA:(prog.info? 95).map (fun i=>(i.zero,i.size,i.bytes))=some (some (.agg #[.int .i64 0,.int .i64 0,.int .u64 0]),3,24):=by kernel_rfl
theorem addP (g o j:Nat):(⟨g,o,none⟩:Addr).add j=⟨g,o+j,none⟩:=by unfold Addr.add;split<;>simp_all
theorem Ts.news {w:World} {g o:Nat} {l:List A} (h:∀ i (h:i<l.length),C3 w g (o+i*3) l[i]):∀ j u,(flat l)[j]? = some u→w.cell? ((⟨g,o,none⟩:Addr).add j)=some u:=by
 intro j u hj;obtain⟨i,hi,hh⟩:=flat_cell l j u hj;obtain⟨c0,c1,c2⟩:=h i hi;rw[addP];rcases hh with⟨rfl,rfl⟩|⟨rfl,rfl⟩|⟨rfl,rfl⟩
 ·exact c0
 ·rw[← Nat.add_assoc];exact c1
 ·rw[← Nat.add_assoc];exact c2
theorem wpList_app {w:World} {ops:Array Oper} {rest:List Oper} {o:Oper} {a:Act} {Q:Exit→Act→World→Prop} (hgd:o.guard=none) (s x:Operand)
 (ho:o.op=.call { callee:=.builtin .append,args:=#[s,x],argTypes:=#[63,63] }) (base:Nat) (v:Value) (n:Nat) (xs:List Value) (hs:a.eval s=v) (hown:w.ownsRow base 95 3 v n xs)
 (ad:Option Addr) (cap:Nat) (l:List A) (m:Nat) (hm:m=l.length) (hx:a.eval x=.slice ad m cap) (hT:Ts w ad l) (hn:n+l.length≤1000) (hbase:base≤w.heap.size)
 (h:∀ v' w',w'.ownsRow base 95 3 v' (n+l.length) (xs++flat l)→w.grownBy w' v.ownBlock→wpList prog ops Q rest (a.put o.dst v') w'):wpList prog ops Q (o::rest) a w:=by
 obtain⟨i0,hi,hz0,hz1,hz2⟩:=info_parts infoA;subst hm;rcases hT with rfl|⟨g,of,rfl,_,hc⟩
 ·have src:Src prog i0.size 63 (.slice ad 0 cap) 0 [] w:=by
   cases ad with
   | none=>exact Src.ofNil w underlying63 cap
   | some q=>exact Src.ofSlice w underlying63 q 0 cap [] (by simp) (fun j u hj=>by simp at hj) (fun u hu=>by simp at hu)
  rcases hown.2 with⟨rfl,h0⟩|⟨g,c,cur,rfl,hbg,hhg,hnc,hcm,hcs,htk⟩
  ·refine Lib.wpList_append_run w hgd s x 63 63 ho _ _ hs hx _ _ (run_append_nothing w 63 63 o.type 95 i0 underlying63 hi none 0 0 (Nat.le_refl _) _ src) ?_;refine h _ _ ?_ ⟨rfl,rfl,rfl,Nat.le_refl _,fun _ _ _=>rfl⟩;simpa [flat]using hown
  ·refine Lib.wpList_append_run w hgd s x 63 63 ho _ _ hs hx _ _ (run_append_nothing w 63 63 o.type 95 i0 underlying63 hi (some ⟨g,0,none⟩) n c hnc _ src) ?_;refine h _ _ ?_ ⟨rfl,rfl,rfl,Nat.le_refl _,fun _ _ _=>rfl⟩;simpa [flat]using hown
 ·exact wpList_append_own w hgd s x 63 ho base 95 i0 (.agg #[.int .i64 0,.int .i64 0,.int .u64 0]) 3 24 underlying63 hi hz0 hz1 hz2 rfl (by decide) v n xs hs hown ⟨g,of,none⟩ l.length cap (flat l) hx (flat_length l) (Ts.news hc) (flat_one l) (by unfold maxLen;omega) (by omega) hbase (fun v' w' h1 h2 _=>h v' w' h1 h2)
theorem own_below {base e size:Nat} {w w':World} {v:Value} {n:Nat} {xs:List Value} (h:w.ownsRow base e size v n xs) (g:Below w.heap.size w w'):w'.ownsRow base e size v n xs :=
 h.kept (row:=none) ⟨g.os,g.tape,g.output,g.size,fun k hk _=>g.block k hk⟩ (by cases v.ownBlock<;>simp)
theorem own_ts {base:Nat} {w:World} {v:Value} {l:List A} (h:w.ownsRow base 95 3 v l.length (flat l)):∃ a cap,v=.slice a l.length cap∧l.length≤cap∧Ts w a l∧(l=[]∨∃ g,a=some ⟨g,0,none⟩∧base≤g∧Rw w g l):=by
 rcases h.2 with⟨rfl,h'⟩|⟨g,cap,cur,rfl,hbg,hhg,hnc,_⟩
 ·have hl:l=[]:=List.length_eq_zero_iff.1 h';subst hl;exact⟨none,0,rfl,Nat.le_refl _,.inl rfl,.inl rfl⟩
 ·have hlt:=(h.lt g rfl).2;have cs:∀ i (hi:i<l.length),C3 w g (i*3) l[i]:=fun i hi=>by
   obtain⟨x0,x1,x2⟩:=flat_at l i hi;refine⟨?_,?_,?_⟩
   ·rw[h.cellAt (i*3) (by omega)];exact x0
   ·rw[h.cellAt (i*3+1) (by omega)];exact x1
   ·rw[h.cellAt (i*3+2) (by omega)];exact x2
  refine⟨some ⟨g,0,none⟩,cap,rfl,hnc,.inr ⟨g,0,rfl,hlt,fun i hi=>by rw[Nat.zero_add];exact cs i hi⟩,.inr ⟨g,rfl,hbg,⟨fun i hi => ?_,fun o => ?_,hlt⟩⟩⟩
  ·rw[at_get l i hi];exact cs i hi
  ·simp[World.frozen?,hhg]
theorem known_snoc (l:List A) (k:Nat) (h:k<l.length):knownL (l.take (k+1))=knownL (l.take k)++(if knownB l[k]=true then [l[k]] else []):=by
 rw[take_snoc_get l k h,known_append];congr 1;unfold knownL;rw[List.filter_cons];split<;>rfl
theorem known_len (l:List A):(knownL l).length≤l.length:=List.length_filter_le _ _
theorem ts_new (w:World) (t:A):Ts (tx w t) (some ⟨w.heap.size,0,none⟩) [t]:=.inr ⟨w.heap.size,0,rfl,by simp,fun i hi=>by
 have:i=0:=by simp at hi;omega
 subst this;exact C3.new w t⟩
theorem known_any (a:Option Addr) (l:List A) (cap:Nat) (w:World) (h:Ts w a l) (hl:l.length≤1000) :
 Calls prog 108 #[.slice a l.length cap] w fun e w'=>∃ v,e=.returned v∧w'.ownsRow w.heap.size 95 3 v (knownL l).length (flat (knownL l))∧Below w.heap.size w w':=by
 have HP:Hid (∀ k w,Calls prog 150 #[.int .i64 k] w fun e w'=>e=.returned (.int .i64 (placeV k))∧w'=w):=place_any;go_enter func108,ntmps108;go_wp2_with fail;go_loopw [3,8] (fun v i wr=>∃ k:Nat,k≤l.length∧i=.int .i64 k∧wr.ownsRow w.heap.size 95 3 v (knownL (l.take k)).length (flat (knownL (l.take k)))∧Below w.heap.size w wr) (fun _ i _=>l.length-(intOf i).toNat);case atStart=>exact⟨0,Nat.zero_le _,rfl,World.ownsRow_nil _ _ _ _,Below.refl _ _⟩
 case round =>
  obtain⟨k,hk,rfl,hown,hbel⟩:=hrel;by_cases hlt:k<l.length
  ·have hT:=h.below hbel;obtain⟨g,o,rfl,hg,hc⟩:=hT.at hlt;obtain⟨c0,c1,c2⟩:=hc k hlt;have HS:Hid (knownL (l.take (k+1))=knownL (l.take k)++(if knownB l[k]=true then [l[k]] else [])):=known_snoc l k hlt;have hkl:(knownL (l.take k)).length≤k:=Nat.le_trans (known_len _) (by rw[List.length_take];omega);cases hb:(placeV l[k].1==0)with
   | true =>
     have hbn:(placeV l[k].1 != 0)=false:=by simp[bne,hb]
     have HK:Hid (knownB l[k]=false):=(show knownB l[k]=false by simp[knownB,hb])
     clear hb;clear hc hT;generalize l[k]=X at *
     go_wp2_with fail;refine(HP.out _ _).mono ?_;rintro r w1 ⟨rfl,rfl⟩;go_wp2_with fail;go_roundw;case rel =>
      refine⟨k+1,by omega,by go_num,?_,hbel.alloc hbel.size _⟩;rw[HS.out,HK.out];simp only[Bool.false_eq_true,if_false,List.append_nil];exact hown.alloc _
     case measure=>simp[intOf];omega
   | false =>
     have hbn:(placeV l[k].1 != 0)=true:=by simp[bne,hb]
     have HK:Hid (knownB l[k]=true):=(show knownB l[k]=true by simp[knownB,hb])
     clear hb;clear hc hT;generalize l[k]=X at *
     go_wp2_with fail;refine(HP.out _ _).mono ?_;rintro r w1 ⟨rfl,rfl⟩;go_wp2_with (at_builtin;refine wpList_app rfl _ _ rfl w.heap.size _ _ _ rfl ((hown.alloc _).alloc _) (some ⟨wr.heap.size+1,0,none⟩) 1 [X] 1 rfl rfl ?c0 ?c1 ?c2 ?_);case c0=>have:=ts_new (tx wr X) X;simpa using this
     case c1=>simp;omega
     case c2=>have:=hbel.size;simp;omega
     ·intro v' w4 hown' hgrow;have R1:w4.ownsRow w.heap.size 95 3 v' (knownL (l.take (k+1))).length (flat (knownL (l.take (k+1)))):=by
       rw[HS.out,HK.out];simp only[if_true,List.length_append,flat_append];exact hown'
      have R2:Below w.heap.size w w4:=((hbel.alloc hbel.size _).alloc (by have:=hbel.size;simp;omega) _).grown hgrow (by have:=hbel.size;simp;omega) (fun q hq=>by have:=(hown.lt q hq).1;omega);clear hown' hgrow hown hbel;go_wp2_with fail;go_roundw;case rel=>exact⟨k+1,by omega,by go_num,R1,R2⟩
      case measure=>simp[intOf];omega
  ·have hk':k=l.length:=by omega
   subst hk';rw[List.take_length]at hown;go_wp2_with fail;go_ret;exact⟨_,rfl,hown,hbel⟩
theorem lastOf_len:∀ l:List A,(lastOf kap l).length≤l.length
 | []=>by simp[lastOf]
 | [x]=>by simp[lastOf]
 | x::y::t=>by
   have:=lastOf_len (y::t);unfold lastOf;split
   ·simp only[List.length_cons]at this ⊢;omega
   ·simp only[List.length_cons]at this ⊢;omega
theorem last_end (l:List A) (k:Nat) (h:k+1=l.length):lastOf kap (l.drop k)=[at' l k]++lastOf kap (l.drop (k+1)):=by
 rw[List.drop_eq_getElem_cons (show k<l.length by omega),List.drop_of_length_le (show l.length≤k+1 by omega),at_get l k (by omega)];rfl
theorem last_mid (l:List A) (k:Nat) (h:k+1<l.length):lastOf kap (l.drop k)=(if kap (at' l k)=kap (at' l (k+1)) then [] else [at' l k])++lastOf kap (l.drop (k+1)):=by
 rw[List.drop_eq_getElem_cons (show k<l.length by omega),List.drop_eq_getElem_cons h,at_get l k (by omega),at_get l (k+1) h];conv=>lhs;unfold lastOf
 split<;>rfl
theorem at_aw' {d:List A} (h:AWs d) {i:Nat} (hi:i<d.length):AW (at' d i):=by
 rw[at_get d i hi];exact h _ (List.getElem_mem hi)
theorem last_any (a:Option Addr) (l:List A) (cap:Nat) (w:World) (h:Ts w a l) (hW:AWs l) (hl:l.length≤1000) :
 Calls prog 112 #[.slice a l.length cap] w fun e w'=>∃ v,e=.returned v∧w'.ownsRow w.heap.size 95 3 v (lastOf kap l).length (flat (lastOf kap l))∧Below w.heap.size w w':=by
 have HB:Hid (∀ x y w,Calls prog 111 #[tV x,tV y] w fun e w'=>e=.returned (.int .i64 (bpV x y))∧Below w.heap.size w w'):=byPlace_any;have HWs:Hid (AWs l):=hW;have hLl:=lastOf_len l;obtain⟨L,hL⟩:∃ L,lastOf kap l=L:=⟨_,rfl⟩
 have HL0:Hid (L=[]++lastOf kap (l.drop 0)):=(show L=[]++lastOf kap (l.drop 0)from hL.symm)
 rw[hL]at hLl ⊢;clear hL hW;go_enter func112,ntmps112;go_wp2_with fail;go_loopw [3,8] (fun v i wr=>∃ (k:Nat) (p:List A),k≤l.length∧i=.int .i64 k∧Hid (L=p++lastOf kap (l.drop k))∧wr.ownsRow w.heap.size 95 3 v p.length (flat p)∧Below w.heap.size w wr) (fun _ i _=>l.length-(intOf i).toNat);case atStart=>exact⟨0,[],Nat.zero_le _,rfl,HL0,World.ownsRow_nil _ _ _ _,Below.refl _ _⟩
 case round =>
  clear HL0;obtain⟨k,p,hk,rfl,HL,hown,hbel⟩:=hrel;by_cases hlt:k<l.length
  ·have hT:=h.below hbel;obtain⟨g,o,rfl,hg,hc⟩:=hT.at hlt;have ck:=hc k hlt;rw[← at_get l k hlt]at ck;have q:=C3.gr (C3.new wr (at' l k)) (by simp);by_cases hlast:k+1=l.length
   ·have hb:((k:Int)==(l.length:Int)-1)=true:=by simp;omega
    have HN:Hid (L=(p++[at' l k])++lastOf kap (l.drop (k+1))):=(show _=_ by rw[HL.out,last_end l k hlast,List.append_assoc])
    have hpl:p.length+1≤1000:=by
     have:=congrArg List.length HN.out;simp only[List.length_append,List.length_cons,List.length_nil]at this;omega
    obtain⟨X,hX⟩:∃ X,at' l k=X:=⟨_,rfl⟩
    rw[hX]at HN ck q;clear hX;have q0:=fun n=>(q n).1;have q1:=fun n=>(q n).2.1;have q2:=fun n=>(q n).2.2;obtain⟨c0,c1,c2⟩:=ck;clear q hc hT;go_wp2_with fail;refine wp_region_grow (by kernel_rfl) (by kernel_rfl) ?_;repeat (go_big_quiet_step ((go_at_call 111;exact quiet_gr (HB.out _ _ _))))
    refine wpQuiet_nil ?_;rintro w1 hw';have g1:=gr_elim hw';have hown1:=own_below (hown.alloc (.cells (tC X) 95)) g1;have hb1:Below w.heap.size w w1:=btr (hbel.alloc hbel.size _) g1 (Nat.le_refl _);clear q0 q1 q2;obtain⟨d0,d1,d2⟩:=(C3.new wr X).below (by simp) g1;have hwr:=hbel.size;clear hw' g1 hown hbel;go_wp2_with (at_builtin;refine wpList_app rfl _ _ rfl w.heap.size _ _ _ rfl (hown1.alloc _) (some ⟨w1.heap.size,0,none⟩) 1 [X] 1 rfl rfl ?c0 ?c1 ?c2 ?_);case c0=>exact ts_new w1 X
    case c1=>simp;omega
    case c2=>have:=hb1.size;simp;omega
    ·intro v' w4 hown' hgrow;have R1:w4.ownsRow w.heap.size 95 3 v' (p++[X]).length (flat (p++[X])):=by
      rw[flat_append,List.length_append];exact hown'
     have R2:Below w.heap.size w w4:=(hb1.alloc hb1.size _).grown hgrow (by have:=hb1.size;simp;omega) (fun q hq=>by have:=(hown1.lt q hq).1;omega);clear hown' hgrow hown1 hb1 d0 d1 d2;go_wp2_with fail;go_roundw;case rel=>exact⟨k+1,p++[X],by omega,by go_num,HN,R1,R2⟩
     case measure=>simp[intOf];omega
   ·have hb:((k:Int)==(l.length:Int)-1)=false:=by simp;omega
    have hlt1:k+1<l.length:=by omega
    have ck1:=hc (k+1) hlt1;rw[← at_get l (k+1) hlt1]at ck1;have q':=C3.gr (W:=tx wr (at' l k)) (ck1.below hg ((Below.refl _ _).alloc (Nat.le_refl _) _)) (by simp;omega);have hm:=last_mid l k hlt1;have heq:=bpV_eq (at_aw' HWs.out hlt) (at_aw' HWs.out hlt1);obtain⟨P,hP⟩:∃ P,k+1=P:=⟨_,rfl⟩
    have eP:(k:Int)+1=(P:Int):=by omega
    have lP:(P:Int)<(l.length:Int):=by omega
    have lP':P<l.length:=by omega
    rw[hP]at ck1 q' heq;obtain⟨X,hX⟩:∃ X,at' l k=X:=⟨_,rfl⟩
    obtain⟨Y,hY⟩:∃ Y,at' l P=Y:=⟨_,rfl⟩
    have HM:Hid (lastOf kap (l.drop k)=(if kap X=kap Y then [] else [X])++lastOf kap (l.drop (k+1))):=(show _=_ by rw[hm,hP,hX,hY])
    rw[hX]at ck q q' heq;rw[hY]at ck1 q' heq;clear hX hY hm;have q0:=fun n=>(q n).1;have q1:=fun n=>(q n).2.1;have q2:=fun n=>(q n).2.2;have r0:=fun n=>(q' n).1;have r1:=fun n=>(q' n).2.1;have r2:=fun n=>(q' n).2.2;obtain⟨c0,c1,c2⟩:=ck;have HP:Hid (k+1=P):=hP;clear q q' hc hT ck1 hP;by_cases hv:kap X=kap Y
    ·have hvb:(bpV X Y != 0)=false:=by simp[bne,heq.2 hv]
     have HN:Hid (L=p++lastOf kap (l.drop (k+1))):=(show _=_ by rw[HL.out,HM.out,if_pos hv];rfl)
     clear heq hv HM HL;go_wp2_with fail;refine wp_region_grow (by kernel_rfl) (by kernel_rfl) ?_;repeat (go_big_quiet_step ((go_at_call 111;exact quiet_gr (HB.out _ _ _))))
     refine wpQuiet_nil ?_;rintro w1 hw';have g1:=gr_elim hw';have hown1:=own_below (hown.alloc (.cells (tC X) 95)) g1;have hb1:Below w.heap.size w w1:=btr (hbel.alloc hbel.size _) g1 (Nat.le_refl _);clear q0 q1 q2 r0 r1 r2;clear hw' g1 hown hbel;go_wp2_with fail;go_roundw;case rel=>exact⟨k+1,p,by omega,by go_num,HN,hown1,hb1⟩
     case measure=>simp[intOf];omega
    ·have hvb:(bpV X Y != 0)=true:=by
      rw[bne_iff_ne];exact fun x=>hv (heq.1 x)
     have HN:Hid (L=(p++[X])++lastOf kap (l.drop (k+1))):=(show _=_ by rw[HL.out,HM.out,if_neg hv,List.append_assoc])
     have hpl:p.length+1≤1000:=by
      have:=congrArg List.length HN.out;simp only[List.length_append,List.length_cons,List.length_nil]at this;omega
     clear heq hv HM HL;go_wp2_with fail;refine wp_region_grow (by kernel_rfl) (by kernel_rfl) ?_;repeat (go_big_quiet_step ((go_at_call 111;exact quiet_gr (HB.out _ _ _))))
     refine wpQuiet_nil ?_;rintro w1 hw';have g1:=gr_elim hw';have hown1:=own_below (hown.alloc (.cells (tC X) 95)) g1;have hb1:Below w.heap.size w w1:=btr (hbel.alloc hbel.size _) g1 (Nat.le_refl _);clear q0 q1 q2 r0 r1 r2;obtain⟨d0,d1,d2⟩:=(C3.new wr X).below (by simp) g1;have hwr:=hbel.size;clear hw' g1 hown hbel;go_wp2_with (at_builtin;refine wpList_app rfl _ _ rfl w.heap.size _ _ _ rfl (hown1.alloc _) (some ⟨w1.heap.size,0,none⟩) 1 [X] 1 rfl rfl ?c0 ?c1 ?c2 ?_);case c0=>exact ts_new w1 X
     case c1=>simp;omega
     case c2=>have:=hb1.size;simp;omega
     ·intro v' w4 hown' hgrow;have R1:w4.ownsRow w.heap.size 95 3 v' (p++[X]).length (flat (p++[X])):=by
       rw[flat_append,List.length_append];exact hown'
      have R2:Below w.heap.size w w4:=(hb1.alloc hb1.size _).grown hgrow (by have:=hb1.size;simp;omega) (fun q hq=>by have:=(hown1.lt q hq).1;omega);clear hown' hgrow hown1 hb1 d0 d1 d2;go_wp2_with fail;go_roundw;case rel=>exact⟨k+1,p++[X],by omega,by go_num,HN,R1,R2⟩
      case measure=>simp[intOf];omega
  ·have hk':k=l.length:=by omega
   have e:p=L:=by rw[HL.out,List.drop_of_length_le (by omega)];simp[lastOf]
   subst e;go_wp2_with fail;go_ret;exact⟨_,rfl,hown,hbel⟩
theorem own_mono {base base' e size:Nat} {w:World} {v:Value} {n:Nat} {xs:List Value} (h:w.ownsRow base' e size v n xs) (hb:base≤base'):w.ownsRow base e size v n xs:=by
 refine⟨h.1,?_⟩;rcases h.2 with h'|⟨g,cap,cur,hv,hg,hr⟩
 ·exact .inl h'
 ·exact .inr ⟨g,cap,cur,hv,by omega,hr⟩
theorem grow_any (n:Nat) (w:World) (hn:n≤1000):Calls prog 151 #[.slice none 0 0,.int .i64 n] w fun e w'=>∃ v,e=.returned v∧w'.ownsRow w.heap.size 95 3 v 0 []∧Below w.heap.size w w':=by
 by_cases h0:n=0
 ·subst h0;go_enter func151,ntmps151;go_wp2;go_ret;exact⟨_,rfl,World.ownsRow_nil _ _ _ _,Below.refl _ _⟩
 ·obtain⟨i0,hi,hz0,hz1,hz2⟩:=info_parts infoA;have happ:=Lib.run_append_nil_zeros (P:=prog) w 63 3 63 95 i0 (.agg #[.int .i64 0,.int .i64 0,.int .u64 0]) .i64 .i64 underlying63 underlying3 hi hz0 n (by omega) (by omega) (by omega) (by rw[hz2];omega);have hcapge:=grownCap_ge w n 0 95;have hcaple:=grownCap_le_maxLen w n 0 95 (by unfold maxLen;omega);generalize grownCap w n 0 95=cap2 at happ hcapge hcaple;generalize hZ:(Builtin.zeroCells (Value.agg #[.int .i64 0,.int .i64 0,.int .u64 0]).cells n++Builtin.zeroCells (Value.agg #[.int .i64 0,.int .i64 0,.int .u64 0]).cells (cap2-n))=Z at happ;have hZs:Z.size=cap2*3:=by rw[← hZ];simp[size_zeroCells,Value.cells];omega
  have HA:Hid ((Builtin.append_ #[63,3] 63 #[.slice none 0 0,.int .i64 n]).run prog w=.ok (.slice (some ⟨w.heap.size,0,none⟩) n cap2) (w.drew.alloc (.cells Z 95))):=happ;have hp:(0:Int)<(n:Int):=by omega
  have HC:Hid (cap2≤maxLen):=hcaple;have HZ:Hid (Z.size=cap2*3):=hZs;clear hZ happ hi hz0 hz1 hz2 hcaple hZs;go_enter func151,ntmps151;go_wp2_with (at_builtin;refine Lib.wpList_append_run _ rfl (.tmp 20) (.tmp 21) 63 3 rfl (.slice none 0 0) (.int .i64 n) rfl rfl (.slice (some ⟨w.heap.size,0,none⟩) n cap2) (w.drew.alloc (.cells Z 95)) HA.out ?_);go_ret;exact⟨_,rfl,World.ownsRow_made _ _ _ (Nat.le_refl _) HC.out HZ.out,by go_grown⟩
theorem concat_any (q:Nat) (a b:Option Addr) (l m:List A) (ca cb:Nat) (w:World) (hq:q<w.heap.size) (c0:w.cell? ⟨q,0,none⟩=some (.slice a l.length ca)) (c1:w.cell? ⟨q,1,none⟩=some (.slice b m.length cb)) (ha:Ts w a l) (hb:Ts w b m) (hl:l.length+m.length≤1000) :
 Calls prog 109 #[.slice (some ⟨q,0,none⟩) 2 2] w fun e w'=>∃ v,e=.returned v∧w'.ownsRow w.heap.size 95 3 v (l++m).length (flat (l++m))∧Below w.heap.size w w':=by
 have HG:Hid (∀ (n:Nat) (w:World),n≤1000→Calls prog 151 #[.slice none 0 0,.int .i64 n] w fun e w'=>∃ v,e=.returned v∧w'.ownsRow w.heap.size 95 3 v 0 []∧Below w.heap.size w w'):=grow_any;go_enter func109,ntmps109;go_wp2_with fail;go_loop [3,11] (fun s i=>(i=.int .i64 0∧s=.int .i64 0)∨(i=.int .i64 1∧s=.int .i64 (l.length:Int))∨(i=.int .i64 2∧s=.int .i64 ((l.length+m.length:Nat):Int))) (fun _ i=>2-(intOf i).toNat);case atStart=>exact .inl ⟨rfl,rfl⟩
 case round =>
  rcases hrel with⟨rfl,rfl⟩|⟨rfl,rfl⟩|⟨rfl,rfl⟩
  ·go_wp2_with fail;go_round;case rel=>exact .inr (.inl ⟨by go_num,by first|rfl|go_num⟩)
   case measure=>simp[intOf]
  ·have hs:(l.length:Int)+(m.length:Int)=((l.length+m.length:Nat):Int):=by omega
   have hp : ¬ ((l.length+m.length:Nat):Int)<0:=by omega
   generalize l.length+m.length=S at *
   go_wp2_with fail;go_round;case rel=>exact .inr (.inr ⟨by go_num,by first|rfl|go_num⟩)
   case measure=>simp[intOf]
  ·go_wp2_with fail;refine(HG.out _ _ hl).mono ?_;rintro r w1 ⟨v1,rfl,o1,g1⟩;have d0:=(g1.cell (p:=⟨q,0,none⟩) hq).trans c0;have d1:=(g1.cell (p:=⟨q,1,none⟩) hq).trans c1;have ta:=ha.below g1;clear c0 c1;go_wp2_with fail;go_loopw [6,27] (fun v i wr=>(i=.int .i64 0∧wr.ownsRow w.heap.size 95 3 v 0 (flat [])∧Below w.heap.size w wr)∨(i=.int .i64 1∧wr.ownsRow w.heap.size 95 3 v l.length (flat l)∧Below w.heap.size w wr)∨(i=.int .i64 2∧wr.ownsRow w.heap.size 95 3 v (l.length+m.length) (flat (l++m))∧Below w.heap.size w wr)) (fun _ i _=>2-(intOf i).toNat);case atStart=>exact .inl ⟨rfl,o1,g1⟩
   case round =>
    rcases hrel with⟨rfl,hown,hbel⟩|⟨rfl,hown,hbel⟩|⟨rfl,hown,hbel⟩
    ·have e0:=(hbel.cell (p:=⟨q,0,none⟩) hq).trans ((g1.cell (p:=⟨q,0,none⟩) hq).symm.trans d0);have tA:=ha.below hbel;clear d0 d1 o1 g1 ta;go_wp2_with (at_builtin;refine wpList_app rfl _ _ rfl w.heap.size _ _ _ rfl hown a ca l l.length rfl rfl tA (by omega) hbel.size ?_);intro v' w4 hown' hgrow;have R2:Below w.heap.size w w4:=hbel.grown hgrow hbel.size (fun q hq=>(hown.lt q hq).1);go_wp2_with fail;go_roundw;case rel=>exact .inr (.inl ⟨by go_num,by simpa [flat]using hown',R2⟩)
     case measure=>simp[intOf]
    ·have e0:=(hbel.cell (p:=⟨q,1,none⟩) hq).trans ((g1.cell (p:=⟨q,1,none⟩) hq).symm.trans d1);have tB:=hb.below hbel;clear d0 d1 o1 g1 ta;go_wp2_with (at_builtin;refine wpList_app rfl _ _ rfl w.heap.size _ _ _ rfl hown b cb m m.length rfl rfl tB hl hbel.size ?_);intro v' w4 hown' hgrow;have R2:Below w.heap.size w w4:=hbel.grown hgrow hbel.size (fun q hq=>(hown.lt q hq).1);go_wp2_with fail;go_roundw;case rel=>exact .inr (.inr ⟨by go_num,by rw[flat_append];exact hown',R2⟩)
     case measure=>simp[intOf]
    ·go_wp2_with fail;go_ret;exact⟨_,rfl,by rw[List.length_append];exact hown,hbel⟩
theorem isort_len (l:List A):(isort kap l).length=l.length:=by
 have ins_len:∀ (x:A) (l:List A),(ins kap x l).length=l.length+1:=fun x l=>by
  induction l with
  | nil=>rfl
  | cons y t ih =>
    unfold ins;split
    ·rw[List.length_cons,ih,List.length_cons]
    ·simp
 have go:∀ (l acc:List A),(l.foldl (fun acc x=>ins kap x acc) acc).length=acc.length+l.length:=fun l=>by
  induction l with
  | nil=>intro acc;simp
  | cons x t ih=>intro acc;rw[List.foldl_cons,ih,ins_len,List.length_cons];omega
 have:=go l [];simpa [isort]using this
theorem rw_ts {w:World} {g:Nat} {l:List A} (h:Rw w g l):Ts w (some ⟨g,0,none⟩) l:=.inr ⟨g,0,rfl,h.lt,fun i hi=>by rw[Nat.zero_add,← at_get l i hi];exact h.cells i hi⟩
theorem merge_any (a b:Option Addr) (l m:List A) (ca cb:Nat) (w:World) (ha:Ts w a l) (hb:Ts w b m) (hla:AWs l) (hlb:AWs m) (hl:l.length+m.length≤1000) :
 Calls prog 71 #[.slice a l.length ca,.slice b m.length cb] w fun e w'=>∃ v,e=.returned v∧w'.ownsRow w.heap.size 95 3 v (mergeV (l++m)).length (flat (mergeV (l++m)))∧Below w.heap.size w w':=by
 have haw:AWs (l++m):=fun x hx=>(List.mem_append.1 hx).elim (hla x) (hlb x);have hlen:(l++m).length≤1000:=by rw[List.length_append];exact hl
 have HC:Hid (∀ (q:Nat) (w:World),q<w.heap.size→w.cell? ⟨q,0,none⟩=some (.slice a l.length ca)→w.cell? ⟨q,1,none⟩=some (.slice b m.length cb)→Ts w a l→Ts w b m →
  Calls prog 109 #[.slice (some ⟨q,0,none⟩) 2 2] w fun e w'=>∃ v,e=.returned v∧w'.ownsRow w.heap.size 95 3 v (l++m).length (flat (l++m))∧Below w.heap.size w w'):=(show ∀ _,_ from fun q w h1 h2 h3 h4 h5=>concat_any q a b l m ca cb w h1 h2 h3 h4 h5 hl)
 generalize l++m=L at *
 have HK:Hid (∀ (a:Option Addr) (cap:Nat) (w:World),Ts w a L→Calls prog 108 #[.slice a L.length cap] w fun e w'=>∃ v,e=.returned v∧w'.ownsRow w.heap.size 95 3 v (knownL L).length (flat (knownL L))∧Below w.heap.size w w'):=(show ∀ _,_ from fun a cap w h=>known_any a L cap w h hlen)
 have hkl:=Nat.le_trans (known_len L) hlen;have hkw:AWs (knownL L):=fun x hx=>haw x (List.mem_filter.1 hx).1;have HM:Hid (mergeV L=lastOf kap (isort kap (knownL L))):=(show mergeV L=_ from rfl)
 generalize knownL L=K at *
 have hil:=isort_len K;have hiw:AWs (isort kap K):=fun x hx=>hkw x ((mem_isort _ _).1 hx);have HL:Hid (∀ (a:Option Addr) (cap:Nat) (w:World),Ts w a (isort kap K)→Calls prog 112 #[.slice a K.length cap] w fun e w'=>∃ v,e=.returned v∧w'.ownsRow w.heap.size 95 3 v (mergeV L).length (flat (mergeV L))∧Below w.heap.size w w'):=(show ∀ _,_ from fun a cap w h=>by
  have:=last_any a (isort kap K) cap w h hiw (by omega);rw[hil]at this;rw[HM.out];exact this)
 have HS:Hid (∀ (g:Nat) (cap:Nat) (w:World),Rw w g K→Calls prog 110 #[.slice (some ⟨g,0,none⟩) K.length cap,fvP] w fun e w'=>e=.returned (.tuple #[])∧Rw w' g (isort kap K)∧Below g w w'):=(show ∀ _,_ from fun g cap w h=>sortStable_any g K cap K.length rfl w h hkw hkl)
 have HS0:Hid (K=[]→∀ (a:Option Addr) (cap:Nat) (w:World),Calls prog 110 #[.slice a K.length cap,fvP] w fun e w'=>e=.returned (.tuple #[])∧w'=w):=(show _→_ from fun h a cap w=>by rw[h];exact sortStable_none a cap w)
 have tA:=ha.alloc (.cells #[.slice a l.length ca,.slice b m.length cb] 63);have tB:=hb.alloc (.cells #[.slice a l.length ca,.slice b m.length cb] 63);clear hil hiw hkw hkl haw hlen HM hla hlb hl;go_enter func71,ntmps71;go_wp2_with fail;refine(HC.out _ _ (by simp) (by simp) (by simp) tA tB).mono ?_;rintro r w1 ⟨v1,rfl,o1,g1⟩;obtain⟨a1,c1,rfl,_,t1,_⟩:=own_ts o1;have b1:Below w.heap.size w w1:=btr (by go_grown) g1 (by simp);clear tA tB HC g1;go_wp2_with fail;refine(HK.out _ _ _ t1).mono ?_;rintro r w2 ⟨v2,rfl,o2,g2⟩;obtain⟨a2,c2,rfl,_,t2,hrow⟩:=own_ts o2;have b2:=btr b1 g2 (Nat.le_refl _);have hs1:=b1.size;clear HK g2 t1 o1 b1;go_wp2_with fail;rcases hrow with hK|⟨g,rfl,hg,hrw⟩
 ·have hs0:Calls prog 110 #[.slice a2 K.length c2,fvP] w2 fun e w'=>e=.returned (.tuple #[])∧w'=w2:=by rw[hK];exact sortStable_none a2 c2 w2
  have hi0:isort kap K=[]:=by rw[hK];simp[isort]
  have HI0:Hid (isort kap K=[]):=hi0;clear hi0 hK;refine Calls.mono hs0 ?_;rintro r w3 ⟨rfl,rfl⟩;go_wp2_with fail;refine(HL.out _ _ _ (Or.inl HI0.out)).mono ?_;rintro r w4 ⟨v4,rfl,o4,g4⟩;go_wp2_with fail;go_ret;exact⟨_,rfl,own_mono o4 b2.size,btr b2 g4 (Nat.le_refl _)⟩
 ·refine(HS.out _ _ _ hrw).mono ?_;rintro r w3 ⟨rfl,r3,g3⟩;have b3:Below w.heap.size w w3:=b2.trans (g3.mono (by omega));go_wp2_with fail;refine(HL.out _ _ _ (rw_ts r3)).mono ?_;rintro r w4 ⟨v4,rfl,o4,g4⟩;go_wp2_with fail;go_ret;exact⟨_,rfl,own_mono o4 b3.size,btr b3 g4 (Nat.le_refl _)⟩
end Sr
end Go.Proofs.YtgnihbdcdefdgaaGreatDoor

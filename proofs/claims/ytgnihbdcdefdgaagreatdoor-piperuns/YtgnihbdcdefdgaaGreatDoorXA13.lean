import Derived.Test.YtgnihbdcdefdgaaGreatDoorXA12
import Derived.Test.YtgnihbdcdefdgaaGreatDoorX27
import Derived.Deep.RegionHeld
import Derived.Shelf.RegionOpenPlain
set_option maxHeartbeats 8000000
set_option linter.unusedSimpArgs false
set_option linter.unusedVariables false
open Go.ChangeShapes Go.WideShapes Go.ChangeAt Go.RowKit
open Go.Proofs.Tryz
namespace Go.Proofs.YtgnihbdcdefdgaaGreatDoor
def inT (t:Int) (x:Fp):Bool:=x.tab==t
theorem filter_snoc {l:List Fe} {t:Int} {k:Nat} (h:k<l.length):(l.take (k+1)).filter (fun x=>inT t x.p)=(l.take k).filter (fun x=>inT t x.p)++if inT t l[k].p=true then [l[k]] else []:=by
 rw[List.take_succ_eq_append_getElem h,List.filter_append];congr 1;split<;>simp_all
theorem rlist_of (base:Nat) (r:Nat) (S:Nat→Prop) (room:Int) (v:Value) (l:List Fe) (t:Int) (w:World) (h:Rm base w r S room v l) (hl:l.length≤1000) :
 Calls prog 65 #[.pointer (some ⟨r,0,none⟩),.int .i64 t] w fun e w'=>∃ v',e=.returned v'∧OwnE w.heap.size w' v' (l.filter fun x=>inT t x.p)∧Below w.heap.size w w':=by
 obtain⟨i0,hi,hz0,hz1,hz2⟩:=info_parts infoFe;obtain⟨a,cap,rfl,hform⟩:=OwnE.form2 h.row;have HO:Hid (OwnE base w (.slice a l.length cap) l):=h.row;have HF:Hid (a=none∧l=[]∧cap=0∨∃ g,a=some ⟨g,0,none⟩∧base≤g∧g<w.heap.size∧l.length≤cap∧cap≤maxLen):=hform;have hcl:=h.cl;have hrl:r<w.heap.size:=h.lt r h.sr;clear h hform;go_enter func65,ntmps65;go_wp2;go_loopw [5,6] (fun s5 i wr=>∃ (k:Nat) (v:Value),k≤l.length∧v=s5∧i=.int .i64 k∧Hid (OwnE w.heap.size wr v ((l.take k).filter fun x=>inT t x.p))∧Below w.heap.size w wr) (fun _ i _=>l.length-(intOf i).toNat);case atStart=>exact⟨0,_,Nat.zero_le _,rfl,rfl,(show World.ownsRow _ _ _ _ _ _ _ from World.ownsRow_nil _ _ _ _),Below.refl _ _⟩
 case round =>
  obtain⟨k,v,hk,rfl,rfl,HM,hbel⟩:=hrel;have c0:wr.cell? ⟨r,0,none⟩=some (.slice a l.length cap):=(hbel.cell (p:=⟨r,0,none⟩) hrl).trans hcl;have HL:Hid (Below w.heap.size w wr):=hbel;have zl:=hbel.size;clear hbel;by_cases hlt:k<l.length
  ·obtain⟨gb,rfl,_,hgb,hnc,_⟩:∃ g,a=some ⟨g,0,none⟩∧base≤g∧g<w.heap.size∧l.length≤cap∧cap≤maxLen:=by
    rcases HF.out with⟨_,h,_⟩|h
    ·subst h;cases hlt
    ·exact h
   have HB:Hid (Be wr gb (k*10) l[k]):=(OwnE.be rfl HO.out k hlt).below hgb HL.out;have ct:wr.cell? ⟨gb,k*10,none⟩=some (.int .i64 l[k].p.tab):=HB.out 0 _ rfl;have HS:=filter_snoc (t:=t) hlt;have HSn:Hid _:=HS;clear HS;have hlf:((l.take k).filter fun x=>inT t x.p).length≤1000:=Nat.le_trans (List.length_filter_le _ _) (Nat.le_trans (List.length_take_le _ _) (by omega));cases hq:(l[k].p.tab==t)with
   | false =>
     have HM2:Hid (OwnE w.heap.size wr v ((l.take (k+1)).filter fun x=>inT t x.p)):=(show World.ownsRow _ _ _ _ _ _ _ from by
      have e:(l.take (k+1)).filter (fun x=>inT t x.p)=(l.take k).filter (fun x=>inT t x.p):=by rw[HSn.out,if_neg (by unfold inT;rw[hq];decide),List.append_nil]
      rw[e];exact HM.out)
     go_wp2_with fail;go_roundw;case rel=>exact⟨k+1,v,by omega,rfl,by go_num,HM2,HL.out⟩
     case measure=>simp[intOf];omega
   | true =>
     have HM2:Hid ((l.take (k+1)).filter (fun x=>inT t x.p)=(l.take k).filter (fun x=>inT t x.p)++[l[k]]):=(show _=_ by rw[HSn.out,if_pos (show inT t l[k].p=true from hq)])
     clear HSn;generalize (l.take k).filter (fun x=>inT t x.p)=m at *
     generalize l[k]=Y at *
     obtain⟨W3,hW3⟩:∃ W3,wr.alloc (.cells (feC Y) 76)=W3:=⟨_,rfl⟩
     have g3:Below wr.heap.size wr W3:=by rw[← hW3];go_grown
     have HN:Hid (W3.heap[wr.heap.size]? = some (.cells (feC Y) 76 (0,0))):=(show _=_ by rw[← hW3];exact heap_alloc_new wr _)
     have HO3:Hid (OwnE w.heap.size W3 v m):=ownE_below HM.out g3;have HG3:Hid (Below w.heap.size w W3):=btr HL.out g3 (Nat.le_refl _);have z3:W3.heap.size=wr.heap.size+1:=by rw[← hW3];simp
     clear g3
     go_wp2_with (first
      | (refine load_E rfl (.tmp 32) rfl gb (k*10) Y (by simp[Act.eval,Act.put]) HB.out ?_)
      | (at_builtin;refine wpList_append_lies W3 rfl (.tmp 26) (.tmp 34) 22 rfl w.heap.size 76 i0 zeroV 10 128 underlying22 hi hz0 hz1 hz2 rfl (by decide) v m.length (flatE m) rfl HO3.out ⟨wr.heap.size,0,none⟩ 1 1 (flatE [Y]) rfl rfl (news_one HN.out) (flatE_one _) (by decide) (by unfold maxLen;omega) (by omega) (by omega) _ rfl ?_;intro g4 cap4 w4 hown hgrow hat hlt4;have HM4:Hid (OwnE w.heap.size w4 (.slice (some ⟨g4,0,none⟩) (m.length+1) cap4) (m++[Y])):=(show World.ownsRow _ _ _ _ _ _ _ from(by rw[List.length_append,flatE_append];exact hown));have HG4:Hid (Below w.heap.size w w4):=HG3.out.grown hgrow (by omega) (fun k hk=>(HO3.out.lt k hk).1);clear hown hgrow hat hlt4))
     go_roundw;case rel=>exact⟨k+1,_,by omega,rfl,by go_num,(show World.ownsRow _ _ _ _ _ _ _ from by rw[HM2.out];exact HM4.out),HG4.out⟩
     case measure=>simp[intOf];omega
  ·have hk':k=l.length:=by omega
   subst hk';have HR:Hid (OwnE w.heap.size wr v (l.filter fun x=>inT t x.p)):=(show World.ownsRow _ _ _ _ _ _ _ from by have:=HM.out;rwa [List.take_length]at this)
   go_wp2;go_ret;exact⟨v,rfl,HR.out,HL.out⟩
theorem Rm.update {base:Nat} {w w':World} {r:Nat} {S:Nat→Prop} {room:Int} {v v':Value} {l m:List Fe} (h:Rm base w r S room v l) (hz:w.heap.size≤w'.heap.size)
 (hk:∀ b,b<base→b<w.heap.size→w'.heap[b]? = w.heap[b]?)
 (hc0:w'.cell? ⟨r,0,none⟩=some v') (hc1:w'.cell? ⟨r,1,none⟩=w.cell? ⟨r,1,none⟩) (hf:∀ o,w'.frozen? ⟨r,o,none⟩=w.frozen? ⟨r,o,none⟩)
 (hown:OwnE base w' v' m) (hv:v'.ownBlock=v.ownBlock∨∀ g,v'.ownBlock=some g→w.heap.size≤g)
 (hm:∀ x∈m,FW w x∧∀ b,InF x b→b<base):Rm base w' r (more S w w') room v' m:=by
 have hrl:=h.lt r h.sr;refine⟨hc0,hc1.trans h.cr,fun o=>(hf o).trans (h.fz o),hown,.inl h.sr,?_,fun x hx=>⟨(hm x hx).1.stay hz (fun b hb hlt=>hk b ((hm x hx).2 b hb) hlt),(hm x hx).2⟩,?_,?_,h.r1,h.r2⟩
 ·intro g hg;rcases hv with e|e
  ·have:=h.so g (by rw[← e];exact hg);exact⟨.inl this.1,this.2⟩
  ·have:=e g hg;exact⟨.inr ⟨this,(hown.lt g hg).2⟩,by omega⟩
 ·intro b hb;rcases hb with hb|hb
  ·exact h.lo b hb
  ·have:=h.lo r h.sr;omega
 ·intro b hb;rcases hb with hb|hb
  ·exact Nat.lt_of_lt_of_le (h.lt b hb) hz
  ·exact hb.2
theorem Rm.set {base:Nat} {w:World} {r:Nat} {S:Nat→Prop} {room:Int} {g cap:Nat} {l:List Fe} (h:Rm base w r S room (.slice (some ⟨g,0,none⟩) l.length cap) l) (i:Nat) (hi:i<l.length) (x:Fe) (hx:FW w x∧∀ b,InF x b→b<base) :
 Rm base (w.setCells g (i*10) (feC x).toList) r S room (.slice (some ⟨g,0,none⟩) l.length cap) (l.set i x)∧Kept S w (w.setCells g (i*10) (feC x).toList):=by
 have hs:=OwnE.set rfl h.row i hi x;have o:Only g w (w.setCells g (i*10) (feC x).toList):=only_cells g _ _ _ _ (Only.refl g w);generalize w.setCells g (i*10) (feC x).toList=V at *
 have hg:=h.so g rfl;have hb:base≤g:=h.lo g hg.1;have hr:=o.block r (fun e=>hg.2 e.symm);have hz:w.heap.size≤V.heap.size:=by rw[o.size];exact Nat.le_refl _
 refine⟨⟨(World.cell?_of_block (w:=w) hr).trans h.cl,(World.cell?_of_block (w:=w) hr).trans h.cr,fun k=>(World.frozen?_of_block (w:=w) hr).trans (h.fz k),?_,h.sr,h.so,?_,h.lo,fun b hb=>Nat.lt_of_lt_of_le (h.lt b hb) hz,h.r1,h.r2⟩,⟨o.os,o.tape,o.output,hz,fun b hb hn=>o.block b (fun e=>hn (by rw[e];exact hg.1))⟩⟩
 ·show World.ownsRow _ _ _ _ _ _ _;rw[List.length_set];exact hs
 ·intro y hy;have hy':FW w y∧∀ b,InF y b→b<base:=by
   rcases List.mem_or_eq_of_mem_set hy with h1|h1
   ·exact h.en y h1
   ·rw[h1];exact hx
  exact⟨hy'.1.stay hz (fun b hb' hlt=>o.block b (fun e=>by have:=hy'.2 b hb';omega)),hy'.2⟩
theorem radd_fin {base:Nat} {w:World} {r:Nat} {S:Nat→Prop} {room:Int} {v:Value} {l:List Fe} (h:Rm base w r S room v l) {w6:World} (g6:Below w.heap.size w w6) {B:Nat} (hB:w.heap.size≤B) {a6:Option Addr} {n6 cap6:Nat} {m:List Fe} (hn:n6=m.length) (ho:OwnE B w6 (.slice a6 n6 cap6) m)
 (hm:∀ x∈m,FW w x∧∀ b,InF x b→b<base) (E:Int) (L':List Fp) (hL:m.map Fe.p=L'):∃ S',Rs base (w6.setCell ⟨r,0,none⟩ (.slice a6 n6 cap6)) r S' room L'∧Kept S w (w6.setCell ⟨r,0,none⟩ (.slice a6 n6 cap6))∧∀ b,S' b→S b∨w.heap.size≤b:=by
 subst hn;have hrl:=h.lt r h.sr;have hrb:=h.lo r h.sr;obtain⟨V,hV⟩:∃ V,w6.setCell ⟨r,0,none⟩ (.slice a6 m.length cap6)=V:=⟨_,rfl⟩
 have o:Only r w6 V:=by rw[← hV];exact(Only.refl r w6).setCell 0 _
 have hz:w.heap.size≤V.heap.size:=by rw[o.size];exact g6.size
 have hc1:V.cell? ⟨r,1,none⟩=w.cell? ⟨r,1,none⟩:=by rw[← hV,World.cell?_setCell_other _ _ _ _ (by simp)];exact g6.cell (p:=⟨r,1,none⟩) hrl
 have hc0:V.cell? ⟨r,0,none⟩=some (.slice a6 m.length cap6):=by rw[← hV];exact World.cell?_setCell_same _ _ _ ((g6.cell (p:=⟨r,0,none⟩) hrl).trans h.cl)
 have hf:∀ k,V.frozen? ⟨r,k,none⟩=w.frozen? ⟨r,k,none⟩:=fun k=>by rw[← hV,World.frozen?_setCell];exact World.frozen?_of_block (w:=w) (g6.block r hrl)
 have hb:∀ b,b<w.heap.size→b≠r→V.heap[b]? = w.heap[b]?:=fun b hb hne=>(o.block b hne).trans (g6.block b hb);rw[hV];have hown:OwnE base V (.slice a6 m.length cap6) m:=by
  refine⟨ho.1,?_⟩;rcases ho.2 with hn|⟨g',cap,cur,hv,hbb,hgg,rest⟩
  ·exact .inl hn
  ·exact .inr ⟨g',cap,cur,hv,by omega,(o.block g' (by omega)).trans hgg,rest⟩
 have hup:=h.update (m:=m) hz (fun b hb1 hb2=>hb b hb2 (by omega)) hc0 hc1 hf hown (.inr fun g hg=>by have:=(ho.lt g hg).1;omega) hm;refine⟨_,⟨_,_,hup,hL⟩,⟨o.os.trans g6.os,o.tape.trans g6.tape,o.output.trans g6.output,hz,fun b hb1 hb2=>hb b hb1 (fun e=>hb2 (by rw[e];exact h.sr))⟩,fun b hb => ?_⟩;rcases hb with hb|hb
 ·exact .inl hb
 ·exact .inr hb.1
theorem ins_map (l:List Fe) (x:Fe) (k:Nat) (L:List Fp) (hL:l.map Fe.p=L) (hE:endV x.p.pri L=k):(l.take k++[x]++l.drop k).map Fe.p=insL L x.p:=by
 subst hL;unfold insL;rw[hE];simp[List.map_take,List.map_drop]
theorem row_cells {base:Nat} {w:World} {g n cap:Nat} {l:List Fe} (hn:n=l.length) (h:w.ownsRow base 76 10 (.slice (some ⟨g,0,none⟩) n cap) n (flatE l)) (k:Nat) (hk:k≤l.length):∀ j u,(flatE (l.drop k))[j]? = some u→w.cell? ⟨g,k*10+j,none⟩=some u:=by
 subst hn;intro j u hj;rw[← flatE_drop,List.getElem?_drop]at hj;have hlt:=(List.getElem?_eq_some_iff.1 hj).1;rw[flatE_length]at hlt;rw[h.cellAt (k*10+j) (by omega)];exact hj
theorem row_take {base:Nat} {w:World} {g n cap:Nat} {l:List Fe} (hn:n=l.length) (h:w.ownsRow base 76 10 (.slice (some ⟨g,0,none⟩) n cap) n (flatE l)) (k:Nat):∀ j u,(flatE (l.take k))[j]? = some u→w.cell? ⟨g,0+j,none⟩=some u:=by
 subst hn;intro j u hj;rw[← flatE_take,List.getElem?_take]at hj;split at hj
 ·have hlt:=(List.getElem?_eq_some_iff.1 hj).1;rw[flatE_length]at hlt;rw[Nat.zero_add,h.cellAt j (by omega)];exact hj
 ·cases hj
theorem wpList_appE {w:World} {ops:Array Oper} {rest:List Oper} {o:Oper} {a:Go.Act} {Q:Exit→Go.Act→World→Prop} (hgd:o.guard=none) (s x:Operand)
 (ho:o.op=.call { callee:=.builtin .append,args:=#[s,x],argTypes:=#[22,22] }) (base:Nat) (v:Value) (n:Nat) (xs:List Value) (hs:a.eval s=v) (hown:w.ownsRow base 76 10 v n xs)
 (ad:Option Addr) (m cap:Nat) (l:List Fe) (hm:m=l.length) (hx:a.eval x=.slice ad m cap) (hT:l=[]∨∃ g o,ad=some ⟨g,o,none⟩∧∀ j u,(flatE l)[j]? = some u→w.cell? ⟨g,o+j,none⟩=some u) (hn:n+l.length≤100000) (hbase:base≤w.heap.size)
 (h:∀ v' w',w'.ownsRow base 76 10 v' (n+m) (xs++flatE l)→w.grownBy w' v.ownBlock→wpList prog ops Q rest (a.put o.dst v') w'):wpList prog ops Q (o::rest) a w:=by
 obtain⟨i0,hi,hz0,hz1,hz2⟩:=info_parts infoFe;subst hm;rcases hT with rfl|⟨g,of,rfl,hc⟩
 ·have src:Src prog i0.size 22 (.slice ad 0 cap) 0 [] w:=by
   cases ad with
   | none=>exact Src.ofNil w underlying22 cap
   | some q=>exact Src.ofSlice w underlying22 q 0 cap [] (by simp) (fun j u hj=>by simp at hj) (fun u hu=>by simp at hu)
  rcases hown.2 with⟨rfl,h0⟩|⟨g,c,cur,rfl,hbg,hhg,hnc,hcm,hcs,htk⟩
  ·refine Lib.wpList_append_run w hgd s x 22 22 ho _ _ hs hx _ _ (run_append_nothing w 22 22 o.type 76 i0 underlying22 hi none 0 0 (Nat.le_refl _) _ src) ?_;refine h _ _ ?_ ⟨rfl,rfl,rfl,Nat.le_refl _,fun _ _ _=>rfl⟩;simpa [flatE]using hown
  ·refine Lib.wpList_append_run w hgd s x 22 22 ho _ _ hs hx _ _ (run_append_nothing w 22 22 o.type 76 i0 underlying22 hi (some ⟨g,0,none⟩) n c hnc _ src) ?_;refine h _ _ ?_ ⟨rfl,rfl,rfl,Nat.le_refl _,fun _ _ _=>rfl⟩;simpa [flatE]using hown
 ·exact wpList_append_own w hgd s x 22 ho base 76 i0 zeroV 10 128 underlying22 hi hz0 hz1 hz2 rfl (by decide) v n xs hs hown ⟨g,of,none⟩ l.length cap (flatE l) hx (flatE_length l) (fun j u hj=>by rw[addP];exact hc j u hj) (flatE_one l) (by unfold maxLen;omega) (by omega) hbase (fun v' w' h1 h2 _=>h v' w' h1 h2)
abbrev SR (b r gb n cap:Nat) (x:Fe) (w:World):Prop :=
 w.cell? ⟨r,0,none⟩=some (.slice (some ⟨gb,0,none⟩) n cap)∧SX b x.p.tab x w
theorem sr_of {b r gb n cap:Nat} {x:Fe} {W:World} (h:Be W b 0 x) (hc:W.cell? ⟨r,0,none⟩=some (.slice (some ⟨gb,0,none⟩) n cap)):SR b r gb n cap x W:=⟨hc,sx_of rfl h⟩
theorem step_store_E {ops:Array Oper} {o:Oper} {a:Go.Act} {w:World} {K:Go.Act→World→Prop} {Q:Exit→Go.Act→World→Prop} {E:Prop}
 (hg:o.guard=none) (t y:Operand) (ho:o.op=.store 76 t y) (b k:Nat) (x:Fe) (hx:a.eval t=.pointer (some ⟨b,k,none⟩)) (hy:a.eval y=feV x) (ht:w.there b k 10)
 (hK:∀ V,V=w.setCells b k (feC x).toList→K (a.put o.dst undef) V):if Region.wanted o (yielded ops a.tmps)=true then Oper.wp prog o a w K Q else E:=by
 have hw:Region.wanted o (yielded ops a.tmps)=true:=by simp[Region.wanted,hg]
 rw[if_pos hw];exact wp_store_mid 76 t y ho b k (feC x) hx hy ht (hiE x) (oneE x) (hK _ rfl)
end Go.Proofs.YtgnihbdcdefdgaaGreatDoor

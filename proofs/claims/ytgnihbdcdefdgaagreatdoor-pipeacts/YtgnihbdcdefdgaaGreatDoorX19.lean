import Derived.Test.YtgnihbdcdefdgaaGreatDoorX18
import Derived.Deep.AppendLies
import Derived.Shelf.Sort.Plain
import Derived.Shelf.Slices.CompactI
import Derived.Shelf.Slices.Turned
import Derived.Shelf.SlicesQ.Reverse
import Derived.Shelf.Slices.In.SortNone
import Derived.Test.YtgnihbdcdefdgaaGreatDoorRows
set_option maxHeartbeats 8000000
set_option linter.unusedSimpArgs false
set_option linter.unusedVariables false
open Go.ChangeShapes Go.WideShapes Go.ChangeAt Go.RowKit
open Go.Proofs.Tryz
namespace Go.Proofs.YtgnihbdcdefdgaaGreatDoor
structure Made (base:Nat) (w:World) (v:Value) (l:List Fe):Prop where
 own:OwnE base w v l
 fw:∀ x∈l,FW w x
 inn:∀ x∈l,∀ b,InF x b→base≤b∧v.ownBlock≠some b
theorem Made.below {base:Nat} {w w':World} {v:Value} {l:List Fe} (h:Made base w v l) (g:Below w.heap.size w w'):Made base w' v l:=⟨ownE_below h.own g,fun x hx=>(h.fw x hx).below g,h.inn⟩
theorem Made.nil (base:Nat) (w:World):Made base w (.slice none 0 0) []:=⟨World.ownsRow_nil _ _ _ _,fun x hx=>(by cases hx),fun x hx=>(by cases hx)⟩
theorem Made.snoc {base:Nat} {w w':World} {v:Value} {l:List Fe} {y:Fe} {g cap:Nat} (h:Made base w v l) (hy:FW w y) (hi:∀ b,InF y b→base≤b) (hv:∀ b,InF y b→v.ownBlock≠some b)
 (hown:w'.ownsRow base 76 10 (.slice (some ⟨g,0,none⟩) (l.length+1) cap) (l.length+1) (flatE l++flatE [y])) (hg:w.grownBy w' v.ownBlock) (hat:v.ownBlock=some g∨g=w.heap.size):Made base w' (.slice (some ⟨g,0,none⟩) (l.length+1) cap) (l++[y]):=by
 refine⟨?_,?_,?_⟩
 ·unfold OwnE;rw[List.length_append,flatE_append];exact hown
 ·intro x hx;rcases List.mem_append.1 hx with hx|hx
  ·exact(h.fw x hx).stay hg.size (fun b hb hlt=>hg.block b hlt (fun e=>(h.inn x hx b hb).2 e.symm))
  ·have e:x=y:=by simpa using hx
   subst e;exact hy.stay hg.size (fun b hb hlt=>hg.block b hlt (fun e=>hv b hb e.symm))
 ·intro x hx b hb;rcases List.mem_append.1 hx with hx|hx
  ·refine⟨(h.inn x hx b hb).1,?_⟩;rcases hat with e|e
   ·show some g≠some b;rw[← e];exact(h.inn x hx b hb).2
   ·show some g≠some b;have:=(h.fw x hx).lt hb;simp;omega
  ·have e:x=y:=by simpa using hx
   subst e;refine⟨hi b hb,?_⟩;rcases hat with e|e
   ·show some g≠some b;rw[← e];exact hv b hb
   ·show some g≠some b;have:=hy.lt hb;simp;omega
theorem news_one {w:World} {b:Nat} {y:Fe} (h:w.heap[b]? = some (.cells (feC y) 76 (0,0))):∀ j u,(flatE [y])[j]? = some u→w.cell? ((⟨b,0,none⟩:Addr).add j)=some u:=fun j u hj=>by
 rw[addP,Nat.zero_add,cell_of_row w b j (feC y) _ (0,0) h];simpa [flatE]using hj
def tabOf (P:Nat→List Fp) (t:Int):List Fp:=if 0≤t∧t<8 then P t.toNat else []
def lookP (l:List Fp) (s:Mt.Sn):Option Fp:=l.find? fun x=>Mt.takesB x.lt s
def fp0:Fp:=⟨0,0,[],[],[],false,0,0,0,0⟩
def fe0:Fe:=⟨fp0,none,0,none,0,none,0⟩
theorem fe0_w (w:World):FW w fe0:=⟨.inl rfl,.inl rfl,.inl rfl,by simp[fe0,fp0],by simp[fe0,fp0],by simp[fe0,fp0],by simp[fe0,fp0]⟩
theorem lookP_at {l:List Fe} {s:Mt.Sn} {k:Nat} (hk:k<l.length) (h0:∀ j (hj:j<l.length),j<k→Mt.takesB l[j].p.lt s=false) (h1:Mt.takesB l[k].p.lt s=true):lookP (l.map Fe.p) s=some l[k].p:=by
 unfold lookP;rw[List.find?_eq_some_iff_getElem];refine⟨h1,k,by simpa using hk,by simp,fun j hj => ?_⟩;rw[List.getElem_map,h0 j (by omega) hj];rfl
theorem lookP_none {l:List Fe} {s:Mt.Sn} (h0:∀ j (hj:j<l.length),Mt.takesB l[j].p.lt s=false):lookP (l.map Fe.p) s=none:=by
 unfold lookP;rw[List.find?_eq_none];intro x hx;obtain⟨y,hy,rfl⟩:=List.mem_map.1 hx;obtain⟨j,hj,rfl⟩:=List.mem_iff_getElem.1 hy;rw[h0 j hj];decide
theorem infoS (s:Mt.Sn):(prog.info? 49).map (·.size)=some (Mt.snC s).toList.length:=by kernel_rfl
theorem load_S {ops:Array Oper} {rest:List Oper} {op:Oper} {a:Go.Act} {w:World} {Q:Exit→Go.Act→World→Prop} (hw:Region.wanted op (yielded ops a.tmps)=true) (t:Operand) (ho:op.op=.load 49 t)
 (b:Nat) (s:Mt.Sn) (hx:a.eval t=.pointer (some ⟨b,0,none⟩)) (hB:w.rangeAt b 0 (Mt.snC s).toList)
 (h:wpList prog ops Q rest (a.put op.dst (Mt.snV s)) w):wpList prog ops Q (op::rest) a w :=
 BigFrame.wpList_want hw fun _ hK=>wp_load_mid 49 t ho b 0 hx (Mt.snC s).toList _ hB underlying49 rfl (infoS s) (hK _ _ h)
theorem look_of (p:Option Addr) (t:Int) (s:Mt.Sn) (v:Value) (l:List Fe) (w:World) (hs:Mt.Wf s) (hE:∀ w1,Below w.heap.size w w1→Calls prog 42 #[.pointer p,.int .i64 t] w1 fun e w'=>e=.returned v∧w'=w1) (hO:OwnE 0 w v l) (hl:l.length≤300) (hw:∀ x∈l,FW w x) :
 Calls prog 69 #[.pointer p,.int .i64 t,Mt.snV s] w fun e w'=>∃ y:Fe,e=.returned (.tuple #[feV y,.bool (lookP (l.map Fe.p) s).isSome])∧y.p=(lookP (l.map Fe.p) s).getD fp0∧FW w' y∧(∀ b,InF y b→w.heap.size≤b)∧Below w.heap.size w w':=by
 obtain⟨a,cap,rfl,hform⟩:=OwnE.form2 hO;have HE:Hid (∀ w1,Below w.heap.size w w1→Calls prog 42 #[.pointer p,.int .i64 t] w1 fun e w'=>e=.returned (.slice a l.length cap)∧w'=w1):=hE;have HO:Hid (OwnE 0 w (.slice a l.length cap) l):=hO;have HW:Hid (∀ x∈l,FW w x):=hw;have HF:Hid (a=none∧l=[]∧cap=0∨∃ g,a=some ⟨g,0,none⟩∧0≤g∧g<w.heap.size∧l.length≤cap∧cap≤maxLen):=hform;have HT:Hid (∀ (x:Fe) w1,FW w1 x→Calls prog 105 #[.slice x.ta x.p.lt.length x.tc,Mt.snV s] w1 fun e w'=>e=.returned (.bool (Mt.takesB x.p.lt s))∧Below w1.heap.size w1 w'):=(show ∀ x w1,_ from fun x w1 h=>Mt.takes_any _ _ _ s w1 h.t (by have:=h.nt;omega) hs)
 clear hE hO hw hform hs;obtain⟨W2,hW2⟩:∃ W2,(Mt.bx w s).alloc (.cells zeroE 76)=W2:=⟨_,rfl⟩
 have z2:W2.heap.size=w.heap.size+2:=by rw[← hW2];simp
 have HG2:Hid (Below w.heap.size w W2):=(show Below _ _ _ by rw[← hW2];go_grown)
 have HS2:Hid (W2.rangeAt w.heap.size 0 (Mt.snC s).toList):=(show World.rangeAt _ _ _ _ by
  rw[← hW2];have h1:=range_new w (Mt.snC s) 49;exact range_block h1 (heap_alloc_old _ _ (by simp)))
 have HY2:Hid (W2.there (w.heap.size+1) 0 10):=(show World.there _ _ _ _ by rw[← hW2];have:=there_new (Mt.bx w s) zeroE 76;simpa using this)
 go_enter func69,ntmps69;go_wp2_with fail;refine(HE.out W2 HG2.out).mono ?_;rintro e w1 ⟨rfl,h1⟩;obtain rfl:W2=w1:=h1.symm;go_wp2_with fail;go_loopw [9,14] (fun _ i wr=>∃ (k:Nat),k≤l.length∧i=.int .i64 k∧Hid (∀ j (hj:j<l.length),j<k→Mt.takesB l[j].p.lt s=false)∧Below (w.heap.size+2) W2 wr) (fun _ i _=>l.length-(intOf i).toNat);case atStart=>exact⟨0,Nat.zero_le _,rfl,(show ∀ j,_ from fun j _ hj=>absurd hj (Nat.not_lt_zero _)),Below.refl _ _⟩
 case round =>
  obtain⟨k,hk,rfl,HN,hbel⟩:=hrel;have HL:Hid (Below (w.heap.size+2) W2 wr):=hbel;have zr:=hbel.size;have HGr:Hid (Below w.heap.size w wr):=HG2.out.trans (hbel.mono (by omega));clear hbel;by_cases hlt:k<l.length
  ·obtain⟨gb,rfl,_,hgb,hnc,_⟩:∃ g,a=some ⟨g,0,none⟩∧0≤g∧g<w.heap.size∧l.length≤cap∧cap≤maxLen:=by
    rcases HF.out with⟨_,h,_⟩|h
    ·subst h;cases hlt
    ·exact h
   have HB:Hid (Be wr gb (k*10) l[k]):=(OwnE.be rfl HO.out k hlt).below hgb HGr.out
   go_wp2_with (first
    | (refine load_E rfl (.tmp 16) rfl gb (k*10) l[k] (by simp[Act.eval,Act.put]) HB.out ?_)
    | (refine store_E rfl (.tmp 9) (.tmp 17) rfl wr.heap.size 0 l[k] rfl rfl (there_new wr zeroE 76) ?_;intro V hV bV tV oV;clear hV;have HBV:Hid (Be V wr.heap.size 0 l[k]):=bV;have HGV:Hid (Below wr.heap.size wr V):=oV.below (Nat.le_refl _) (show Below wr.heap.size wr (wr.alloc (.cells zeroE 76))by go_grown);have zV:V.heap.size=wr.heap.size+1:=(by rw[oV.size];simp);have d2:=bV.cs.2.2.1;clear bV tV oV)
    | (refine load_S rfl (.tmp 5) rfl w.heap.size s rfl (range_block HS2.out ((HGV.out.block _ (by omega)).trans (HL.out.block _ (by omega)))) ?_))
   have hfw:FW V l[k]:=(HW.out _ (List.getElem_mem _)).below (btr HGr.out HGV.out (Nat.le_refl _));refine(HT.out l[k] V hfw).mono ?_;rintro e w2 ⟨rfl,g2⟩;have HB2:Hid (Be w2 wr.heap.size 0 l[k]):=HBV.out.below (by omega) g2;have HG2':Hid (Below (w.heap.size+2) W2 w2):=btr (btr HL.out HGV.out (by omega)) g2 (by omega);have HF2:Hid (FW w2 l[k]):=hfw.below g2;have zw:=g2.size;clear g2 hfw d2;cases hq:Mt.takesB l[k].p.lt s with
   | true =>
     have HR:Hid (lookP (l.map Fe.p) s=some l[k].p):=lookP_at hlt HN.out hq;go_wp2_with (refine load_E rfl (.tmp 9) rfl wr.heap.size 0 l[k] rfl HB2.out ?_);refine(copyOf_any l[k] w2 HF2.out).mono ?_;rintro e w3 ⟨y,rfl,hyp,hyw,hyi,g3⟩;have HY:Hid (y.p=l[k].p∧FW w3 y∧(∀ b,InF y b→w2.heap.size≤b)∧Below w2.heap.size w2 w3):=(show _∧_ from⟨hyp,hyw,hyi,g3⟩)
     have HG3:Hid (Below (w.heap.size+2) W2 w3):=btr HG2'.out g3 (by omega);have z3:=g3.size;clear hyp hyw hyi g3;go_wp2_with (refine store_E rfl (.tmp 6) (.tmp 23) rfl (w.heap.size+1) 0 y rfl rfl (there_below HY2.out (by omega) HG3.out) ?_;intro U hU bU tU oU;clear hU);refine bodyPost_ret (resFb (b:=w.heap.size+1) (x:=y) rfl rfl bU) rfl ?_;obtain⟨y1,y2,y3,y4⟩:=HY.out;refine⟨y,by rw[HR.out];rfl,by rw[HR.out];exact y1,y2.stay (by rw[oU.size];exact Nat.le_refl _) (fun b hb _=>oU.block b (by have:=y3 b hb;omega)),fun b hb=>by have:=y3 b hb;omega,?_⟩;exact oU.below (by omega) (HG2.out.trans (HG3.out.mono (by omega)))
   | false =>
     have HN2:Hid (∀ j (hj:j<l.length),j<k+1→Mt.takesB l[j].p.lt s=false):=(show ∀ j,_ from fun j hj h=>by
      by_cases e:j=k
      ·subst e;exact hq
      ·exact HN.out j hj (by omega))
     go_wp2_with fail;go_roundw;case rel=>exact⟨k+1,by omega,by go_num,HN2,HG2'.out⟩
     case measure=>simp[intOf];omega
  ·have hk':k=l.length:=by omega
   subst hk';have HR:Hid (lookP (l.map Fe.p) s=none):=lookP_none (fun j hj=>HN.out j hj hj);go_wp2_with (refine store_E rfl (.tmp 6) (.tmp 25) rfl (w.heap.size+1) 0 fe0 rfl rfl (there_below HY2.out (by omega) HL.out) ?_;intro U hU bU tU oU;clear hU);refine bodyPost_ret (resFb (b:=w.heap.size+1) (x:=fe0) rfl rfl bU) rfl ?_;refine⟨fe0,by rw[HR.out];rfl,by rw[HR.out];rfl,fe0_w _,fun b hb => ?_,oU.below (by omega) HGr.out⟩;rcases hb with⟨h,_⟩|⟨h,_⟩|⟨h,_⟩<;>exact absurd rfl h
theorem look_any (f:Nat) (S:Nat→Prop) (room:Int) (P:Nat→List Fp) (t:Int) (s:Mt.Sn) (hs:Mt.Wf s) (w:World) (h:Fs w f S room P):Calls prog 69 #[.pointer (some ⟨f,0,none⟩),.int .i64 t,Mt.snV s] w fun e w'=>∃ y:Fe,e=.returned (.tuple #[feV y,.bool (lookP (tabOf P t) s).isSome])∧y.p=(lookP (tabOf P t) s).getD fp0∧FW w' y∧(∀ b,InF y b→w.heap.size≤b)∧Below w.heap.size w w':=by
 obtain⟨V,L,h,hp⟩:=h;unfold tabOf;by_cases ht:0≤t∧t<8
 ·rw[if_pos ht];obtain⟨k,rfl⟩:=Int.eq_ofNat_of_zero_le ht.1;have hk:k<8:=by omega
  rw[Int.toNat_natCast,← hp k hk];obtain⟨a,cap,hv,_⟩:=OwnE.form2 (h.row k hk);refine look_of _ _ s (V k) (L k) w hs ?_ (h.row k hk) (by have:=h.nm k hk;have:=h.r2;omega) (fun x hx=>(h.en k hk x hx).1);intro w1 g;have:=(h.below g.size (fun b hb=>g.block b (h.lt b hb))).cv k hk;rw[hv]at this ⊢;exact entries_in f k (V k) w1 hk _ _ _ this
 ·rw[if_neg ht];exact look_of _ t s (.slice none 0 0) [] w hs (fun w1 _=>entries_out f t w1 (by omega)) (World.ownsRow_nil _ _ _ _) (by simp) (fun x hx=>by cases hx)
end Go.Proofs.YtgnihbdcdefdgaaGreatDoor
namespace Go.Proofs
open Go.Shelf
def Tryz.lays189_ren:Go.Shelf.Ren:=⟨fun|125=>127|128=>179|129=>180|189=>87|215=>206|216=>176|257=>126|294=>170|295=>171|296=>172|297=>173|298=>174|299=>175|300=>177|301=>178|328=>212|329=>213|330=>214|331=>215|332=>216|343=>236|0=>0|1=>1|2=>2|99=>239|105=>219|122=>153|165=>240|166=>241|169=>243|170=>242|206=>249|212=>238|240=>250|241=>251|263=>247|264=>248|276=>252|277=>253|347=>254|348=>255|349=>256|350=>257|351=>258|352=>259|353=>260|354=>261|355=>262|356=>263|357=>264|358=>265|359=>266|360=>267|361=>268|362=>271|366=>272|367=>277|n=>n,fun|0=>0|3=>3|4=>4|5=>5|9=>9|28=>122|46=>202|51=>45|53=>44|131=>240|182=>235|183=>236|218=>258|222=>262|228=>273|229=>188|1=>1|2=>2|6=>6|7=>7|8=>8|10=>10|11=>11|12=>12|13=>13|14=>14|15=>15|16=>16|17=>17|18=>18|19=>19|20=>20|21=>21|22=>277|26=>266|35=>170|37=>254|43=>221|45=>140|47=>201|52=>242|54=>243|70=>278|71=>279|72=>280|73=>281|74=>282|75=>283|76=>284|77=>285|80=>286|81=>59|83=>251|103=>226|109=>275|110=>276|111=>139|112=>204|114=>146|127=>294|134=>200|146=>290|147=>291|148=>292|149=>293|164=>295|165=>296|166=>297|181=>234|184=>237|185=>238|186=>239|187=>241|219=>259|220=>260|221=>261|223=>263|230=>274|238=>298|239=>299|240=>300|241=>301|242=>302|243=>303|244=>304|245=>305|246=>306|247=>307|248=>308|249=>309|n=>n,fun|n=>n⟩
theorem Tryz.lays189:Lays.n189 Tryz.prog Tryz.lays189_ren:={
 mixed:=by kernel_rfl
 f125:=Tryz.func127.trans (congrArg some (by kernel_rfl))
 f128:=Tryz.func179.trans (congrArg some (by kernel_rfl))
 f129:=Tryz.func180.trans (congrArg some (by kernel_rfl))
 f189:=Tryz.func87.trans (congrArg some (by kernel_rfl))
 f215:=Tryz.func206.trans (congrArg some (by kernel_rfl))
 f216:=Tryz.func176.trans (congrArg some (by kernel_rfl))
 f257:=Tryz.func126.trans (congrArg some (by kernel_rfl))
 f294:=Tryz.func170.trans (congrArg some (by kernel_rfl))
 f295:=Tryz.func171.trans (congrArg some (by kernel_rfl))
 f296:=Tryz.func172.trans (congrArg some (by kernel_rfl))
 f297:=Tryz.func173.trans (congrArg some (by kernel_rfl))
 f298:=Tryz.func174.trans (congrArg some (by kernel_rfl))
 f299:=Tryz.func175.trans (congrArg some (by kernel_rfl))
 f300:=Tryz.func177.trans (congrArg some (by kernel_rfl))
 f301:=Tryz.func178.trans (congrArg some (by kernel_rfl))
 f328:=Tryz.func212.trans (congrArg some (by kernel_rfl))
 f329:=Tryz.func213.trans (congrArg some (by kernel_rfl))
 f330:=Tryz.func214.trans (congrArg some (by kernel_rfl))
 f331:=Tryz.func215.trans (congrArg some (by kernel_rfl))
 f332:=Tryz.func216.trans (congrArg some (by kernel_rfl))
 f343:=Tryz.func236.trans (congrArg some (by kernel_rfl))
 t0:=Tryz.underlying0
 a0:=Tryz.isAgg0
 z0:=Tryz.sizeOf0
 v0:=Tryz.zeroValue0
 t3:=Tryz.underlying3
 a3:=Tryz.isAgg3
 z3:=Tryz.sizeOf3
 v3:=Tryz.zeroValue3
 t4:=Tryz.underlying4
 a4:=Tryz.isAgg4
 z4:=Tryz.sizeOf4
 v4:=Tryz.zeroValue4
 t5:=Tryz.underlying5
 a5:=Tryz.isAgg5
 z5:=Tryz.sizeOf5
 v5:=Tryz.zeroValue5
 t9:=Tryz.underlying9
 a9:=Tryz.isAgg9
 z9:=Tryz.sizeOf9
 v9:=Tryz.zeroValue9
 t28:=Tryz.underlying122
 a28:=Tryz.isAgg122
 z28:=Tryz.sizeOf122
 v28:=Tryz.zeroValue122
 t46:=Tryz.underlying202
 a46:=Tryz.isAgg202
 z46:=Tryz.sizeOf202
 v46:=Tryz.zeroValue202
 t51:=Tryz.underlying45
 a51:=Tryz.isAgg45
 z51:=Tryz.sizeOf45
 v51:=Tryz.zeroValue45
 t53:=Tryz.underlying44
 a53:=Tryz.isAgg44
 z53:=Tryz.sizeOf44
 v53:=Tryz.zeroValue44
 t131:=Tryz.underlying240
 a131:=Tryz.isAgg240
 z131:=Tryz.sizeOf240
 v131:=Tryz.zeroValue240
 t182:=Tryz.underlying235
 a182:=Tryz.isAgg235
 z182:=Tryz.sizeOf235
 v182:=Tryz.zeroValue235
 t183:=Tryz.underlying236
 a183:=Tryz.isAgg236
 z183:=Tryz.sizeOf236
 v183:=Tryz.zeroValue236
 t218:=Tryz.underlying258
 a218:=Tryz.isAgg258
 z218:=Tryz.sizeOf258
 v218:=Tryz.zeroValue258
 t222:=Tryz.underlying262
 a222:=Tryz.isAgg262
 z222:=Tryz.sizeOf262
 v222:=Tryz.zeroValue262
 t228:=Tryz.underlying273
 a228:=Tryz.isAgg273
 z228:=Tryz.sizeOf273
 v228:=Tryz.zeroValue273
 t229:=Tryz.underlying188
 a229:=Tryz.isAgg188
 z229:=Tryz.sizeOf188
 v229:=Tryz.zeroValue188 }
def Tryz.lays20_ren:Go.Shelf.Ren:=⟨fun|20=>99|0=>0|1=>1|2=>2|31=>176|37=>206|40=>254|41=>255|42=>256|43=>257|44=>258|45=>259|46=>260|47=>261|48=>262|49=>263|50=>264|51=>265|52=>266|53=>267|54=>268|55=>272|n=>n,fun|0=>0|3=>3|4=>4|22=>122|1=>1|2=>2|5=>5|6=>6|7=>7|8=>8|9=>9|10=>10|11=>11|12=>12|13=>13|14=>14|15=>15|16=>16|17=>17|18=>18|19=>19|20=>20|21=>21|23=>177|33=>240|40=>202|41=>204|42=>139|43=>277|45=>170|46=>286|47=>298|48=>299|49=>300|50=>301|51=>302|52=>59|53=>45|54=>303|55=>304|56=>305|57=>294|58=>306|59=>307|60=>308|61=>309|62=>295|n=>n,fun|n=>n⟩
theorem Tryz.lays20:Lays2.n20 Tryz.prog Tryz.lays20_ren:={
 mixed:=by kernel_rfl
 f20:=Tryz.func99.trans (congrArg some (by kernel_rfl))
 t0:=Tryz.underlying0
 a0:=Tryz.isAgg0
 z0:=Tryz.sizeOf0
 v0:=Tryz.zeroValue0
 t3:=Tryz.underlying3
 a3:=Tryz.isAgg3
 z3:=Tryz.sizeOf3
 v3:=Tryz.zeroValue3
 t4:=Tryz.underlying4
 a4:=Tryz.isAgg4
 z4:=Tryz.sizeOf4
 v4:=Tryz.zeroValue4
 t22:=Tryz.underlying122
 a22:=Tryz.isAgg122
 z22:=Tryz.sizeOf122
 v22:=Tryz.zeroValue122
 i3:=by kernel_rfl }
def Tryz.lays35_ren:Go.Shelf.Ren:=⟨fun|35=>208|n=>n,fun|0=>0|3=>3|4=>4|22=>79|23=>93|n=>n,fun|n=>n⟩
theorem Tryz.lays35:SlLaysE0.n35 Tryz.prog Tryz.lays35_ren:={
 mixed:=by kernel_rfl
 f35:=⟨Tryz.f208.name,by decide,Tryz.func208.trans (congrArg some (by kernel_rfl))⟩
 t0:=Tryz.underlying0
 a0:=Tryz.isAgg0
 z0:=Tryz.sizeOf0
 v0:=Tryz.zeroValue0
 t3:=Tryz.underlying3
 a3:=Tryz.isAgg3
 z3:=Tryz.sizeOf3
 v3:=Tryz.zeroValue3
 t4:=Tryz.underlying4
 a4:=Tryz.isAgg4
 z4:=Tryz.sizeOf4
 v4:=Tryz.zeroValue4
 t22:=Tryz.underlying79
 a22:=Tryz.isAgg79
 z22:=Tryz.sizeOf79
 v22:=Tryz.zeroValue79 }
open Go.RowKit Go.Sort Go.Lib
theorem Tryz.slices_Sort_int (blk off cap:Nat) (zs:List Int) (w:World) (hH:Holds (Value.int .i64) w blk off zs.toArray) (hblk:blk<w.heap.size) (hsz:zs.length<4611686018427387904) :
 Calls Tryz.prog 87 #[.slice (some ⟨blk,off,none⟩) zs.length cap] w fun e w' =>
  e=.returned (.tuple #[])∧∃ n os,w'=grow (putRow (Value.int .i64) (Sort.ahead w n) blk off (zs.mergeSort fun x y=>decide (x≤y)).toArray) os:=Any.slices_Sort_int Tryz.lays189 blk off cap zs w hH hblk hsz
theorem Tryz.slices_Compact_int (blk off cap:Nat) (d:Array Int) (w:World) (hH:Holds encI w blk off d) (hsz:d.size≤9223372036854775807) (hcap:d.size≤cap) :
 Calls Tryz.prog 99 #[.slice (some ⟨blk,off,none⟩) d.size cap] w fun e w'=>e=.returned (.slice (some ⟨blk,off,none⟩) (compactUpTo d d.size).length cap)∧∃ q,w'=putRow encI (Sort.ahead w q) blk off (compactUpTo d d.size++List.replicate (d.size-(compactUpTo d d.size).length) 0).toArray:=Any.slices_Compact_int_arr Tryz.lays20 blk off cap d w hH hsz hcap
theorem Tryz.slices_Sort_none (p:Option Addr) (cap:Nat) (w:World):Calls Tryz.prog 87 #[.slice p 0 cap] w fun e w'=>e=.returned (.tuple #[])∧w'=w:=Any.slices_Sort_int_none Tryz.lays189 p cap w
theorem Tryz.slices_Compact_none (p:Option Addr) (cap:Nat) (w:World):Calls Tryz.prog 99 #[.slice p 0 cap] w fun e w'=>e=.returned (.slice p 0 cap)∧w'=w:=Any.slices_Compact_int_empty Tryz.lays20 p cap w
theorem Tryz.slices_Reverse (k:Nat) {α:Type} [Inhabited α] (aE:∀ w,(isAgg 93).run Tryz.prog w=.ok true w) (zE:∀ w,(Go.sizeOf 93).run Tryz.prog w=.ok k w) (enc:α→List Value) (hk:∀ x,(enc x).length=k) (h1:∀ x,∀ v∈enc x,v.oneCell'=true)
 (blk off cap:Nat) (d:Array α) (w:World) (hH:HoldsK enc k w blk off d) (hsz:d.size≤9223372036854775807) :
 Calls Tryz.prog 208 #[.slice (some ⟨blk,off,none⟩) d.size cap] w fun e w'=>e=.returned (.tuple #[])∧∃ n,w'=putRowK enc k (Sort.ahead w n) blk off d.reverse:=AnyQ.slices_Reverse Tryz.lays35 k aE zE enc hk h1 blk off cap d w hH hsz
theorem Tryz.slices_Reverse_none (p:Option Addr) (cap:Nat) (w:World):Calls Tryz.prog 208 #[.slice p 0 cap] w fun e w'=>e=.returned (.tuple #[])∧w'=w:=AnyQ.slices_Reverse_empty Tryz.lays35 p cap w
end Go.Proofs

import Derived.Test.YtgnihbdcdefdgaaGreatDoorX05
import Derived.Test.YtgnihbdcdefdgaaGreatDoorX08
set_option maxHeartbeats 16000000
set_option maxRecDepth 20000
open Go.ChangeShapes Go.WideShapes Go.ChangeAt Go.RowKit
open Go.Proofs.Tryz
namespace Go.Proofs.YtgnihbdcdefdgaaGreatDoor
namespace Sr
theorem rplace_any (a:A) (w:World):Calls prog 79 #[tV a] w fun e w'=>e=.returned (.int .i64 (placeV a.1-1))∧Below w.heap.size w w':=by
 obtain⟨k,f,v⟩:=a;rcases kind_cases k with rfl|rfl|rfl|rfl|rfl|⟨b1,b2,b3,b4,b5⟩
 case inr.inr.inr.inr.inr =>
  rw[place_none b1 b2 b3 b4 b5];go_enter func79,ntmps79;go_wp2;go_ret;exact⟨rfl,by go_grown⟩
 all_goals
  go_enter func79,ntmps79;go_wp2;go_ret;exact⟨rfl,by go_grown⟩
theorem alike_any (a b:A) (w:World):Calls prog 80 #[tV a,tV b] w fun e w'=>e=.returned (.bool (alikeB a b))∧Below w.heap.size w w':=by
 have hA:alikeB a b=((a.1==b.1)&&((a.1 != 5)||(a.2.1==b.2.1))):=by
  unfold alikeB;simp only[bne,Bool.beq_eq_decide_eq]
 rw[hA];clear hA;cases h1:(a.1==b.1)
 ·go_enter func80,ntmps80;go_wp2;go_ret;exact⟨rfl,by go_grown⟩
 ·cases h2:(a.1 != 5)
  ·cases h3:(a.2.1==b.2.1) <;>
   ·go_enter func80,ntmps80;go_wp2;go_ret;exact⟨rfl,by go_grown⟩
  ·go_enter func80,ntmps80;go_wp2;go_ret;exact⟨rfl,by go_grown⟩
theorem C3.two1 (w:World) (a b:A) (n:GrT (tx (tx w a) b)):C3 n.w w.heap.size 0 a:=C3.gr (W:=tx (tx w a) b) ((C3.new w a).below (by simp) ((Below.refl _ _).alloc (Nat.le_refl _) _)) (by first|(simp;done)|(simp;omega)) n
theorem C3.two2 (w:World) (a b:A) (n:GrT (tx (tx w a) b)):C3 n.w (w.heap.size+1) 0 b:=C3.gr (W:=tx (tx w a) b) (by have:=C3.new (tx w a) b;simpa using this) (by simp) n
theorem ahead_any (a b:A) (w:World):Calls prog 81 #[tV a,tV b] w fun e w'=>e=.returned (.bool (aheadB a b))∧Below w.heap.size w w':=by
 have HP:Hid (∀ x w,Calls prog 79 #[tV x] w fun e w'=>e=.returned (.int .i64 (placeV x.1-1))∧Below w.heap.size w w'):=rplace_any;have hA:aheadB a b=(decide (placeV a.1-1<placeV b.1-1)||((placeV a.1-1==placeV b.1-1)&&((a.1==5)&&decide (a.2.1<b.2.1)))):=by
  unfold aheadB;have e1:decide (placeV a.1<placeV b.1)=decide (placeV a.1-1<placeV b.1-1):=decide_eq_decide.2 (by omega);have e2:decide (placeV a.1=placeV b.1)=(placeV a.1-1==placeV b.1-1):=by
   rw[Bool.eq_iff_iff];simp only[decide_eq_true_eq,beq_iff_eq];omega
  have e3:decide (a.1=5)=(a.1==5):=by rw[Bool.eq_iff_iff];simp
  rw[e1,e2,e3]
 have HPa:Hid (∀ w,Calls prog 79 #[tV a] w fun e w'=>e=.returned (.int .i64 (placeV a.1-1))∧Below w.heap.size w w'):=HP.out a;have HPb:Hid (∀ w,Calls prog 79 #[tV b] w fun e w'=>e=.returned (.int .i64 (placeV b.1-1))∧Below w.heap.size w w'):=HP.out b;rw[hA];clear hA HP;generalize placeV a.1-1=pa at *
 generalize placeV b.1-1=pb at *
 have qa:=C3.two1 w a b;have qb:=C3.two2 w a b;have q0:=fun n=>(qa n).1;have q1:=fun n=>(qa n).2.1;have q2:=fun n=>(qa n).2.2;have r0:=fun n=>(qb n).1;have r1:=fun n=>(qb n).2.1;have r2:=fun n=>(qb n).2.2;clear qa qb;cases h1:decide (pa<pb)
 ·cases h2:(pa==pb)
  ·go_enter func81,ntmps81;go_wp2_with fail;refine wp_region_grow (by kernel_rfl) (by kernel_rfl) ?_;repeat (go_big_quiet_step (first|(go_at_call_of 79 (Value.int IntKind.i64 a.1);exact quiet_gr (HPa.out _))|(go_at_call_of 79 (Value.int IntKind.i64 b.1);exact quiet_gr (HPb.out _))))
   refine wpQuiet_nil ?_;rintro w1 hw';have g1:=gr_elim hw';clear q0 q1 q2 r0 r1 r2 hw';go_wp2_with fail;go_ret;exact⟨rfl,btr (by go_grown) g1 (by simp)⟩
  ·cases h3:(a.1==5)
   ·go_enter func81,ntmps81;go_wp2_with fail;refine wp_region_grow (by kernel_rfl) (by kernel_rfl) ?_;repeat (go_big_quiet_step (first|(go_at_call_of 79 (Value.int IntKind.i64 a.1);exact quiet_gr (HPa.out _))|(go_at_call_of 79 (Value.int IntKind.i64 b.1);exact quiet_gr (HPb.out _))))
    refine wpQuiet_nil ?_;rintro w1 hw';have g1:=gr_elim hw';clear q0 q1 q2 r0 r1 r2 hw';go_wp2_with fail;go_ret;exact⟨rfl,btr (by go_grown) g1 (by simp)⟩
   ·cases h4:decide (a.2.1<b.2.1) <;>
    ·go_enter func81,ntmps81;go_wp2_with fail;refine wp_region_grow (by kernel_rfl) (by kernel_rfl) ?_;repeat (go_big_quiet_step (first|(go_at_call_of 79 (Value.int IntKind.i64 a.1);exact quiet_gr (HPa.out _))|(go_at_call_of 79 (Value.int IntKind.i64 b.1);exact quiet_gr (HPb.out _))))
     refine wpQuiet_nil ?_;rintro w1 hw';have g1:=gr_elim hw';clear q0 q1 q2 r0 r1 r2 hw';go_wp2_with fail;go_ret;exact⟨rfl,btr (by go_grown) g1 (by simp)⟩
 ·go_enter func81,ntmps81;go_wp2_with fail;refine wp_region_grow (by kernel_rfl) (by kernel_rfl) ?_;repeat (go_big_quiet_step (first|(go_at_call_of 79 (Value.int IntKind.i64 a.1);exact quiet_gr (HPa.out _))|(go_at_call_of 79 (Value.int IntKind.i64 b.1);exact quiet_gr (HPb.out _))))
  refine wpQuiet_nil ?_;rintro w1 hw';have g1:=gr_elim hw';clear q0 q1 q2 r0 r1 r2 hw';go_wp2_with fail;go_ret;exact⟨rfl,btr (by go_grown) g1 (by simp)⟩
theorem insR_eq (x:A):∀ (O:List A) (j:Nat),j≤O.length→(∀ t,t<j→aheadB (at' O t) x=true)→(j=O.length∨aheadB (at' O j) x=false)→insR x O=O.take j++x::O.drop j
 | [],j,hj,_,_=>by
   have:j=0:=by simp at hj;omega
   subst this;rfl
 | y::t,0,_,_,h=>by
   rcases h with h|h
   ·simp at h
   ·have e:at' (y::t) 0=y:=rfl;rw[e]at h;unfold insR;rw[h];rfl
 | y::t,j+1,hj,h1,h2=>by
   have hy:aheadB y x=true:=h1 0 (by omega);have ih:=insR_eq x t j (by simpa using hj) (fun q hq=>h1 (q+1) (by omega)) (by
    rcases h2 with h2|h2
    ·exact .inl (by simpa using h2)
    ·exact .inr h2)
   unfold insR;rw[hy,if_pos rfl,ih];rfl
theorem insR_len (x:A):∀ O:List A,(insR x O).length=O.length+1
 | []=>rfl
 | y::t=>by
   unfold insR;split
   ·rw[List.length_cons,insR_len x t,List.length_cons]
   ·simp
theorem rgo_at (O G:List A) (k:Nat) (h:k<G.length):rmergeGo O (G.drop k)=if lastIn (at' G k) (G.drop (k+1))=true then rmergeGo (insR (at' G k) O) (G.drop (k+1)) else rmergeGo O (G.drop (k+1)):=by
 rw[List.drop_eq_getElem_cons h,at_get G k h];rfl
def noneB (x:A) (l:List A):Bool:=l.all fun y=>!alikeB x y
theorem none_snoc (x:A) (l:List A) (j:Nat) (h:j<l.length):noneB x (l.take (j+1))=(noneB x (l.take j) && !alikeB x (at' l j)):=by
 unfold noneB;rw[take_snoc_get l j h,List.all_append,List.all_cons,List.all_nil,Bool.and_true,at_get l j h]
theorem Ts.drop {w:World} {g o:Nat} {l:List A} (hg:g<w.heap.size) (h:∀ i (h:i<l.length),C3 w g (o+i*3) l[i]) (j:Nat):Ts w (some ⟨g,o+j*3,none⟩) (l.drop j) :=
 .inr ⟨g,o+j*3,rfl,hg,fun i hi=>by
  have hi':j+i<l.length:=by rw[List.length_drop]at hi;omega
  rw[List.getElem_drop];have:=h (j+i) hi';rw[show o+(j+i)*3=o+j*3+i*3 by omega]at this;exact this⟩
theorem rmerge_loc (a b:Option Addr) (l m:List A) (ca cb:Nat) (w:World) (ha:Ts w a l) (hb:Ts w b m) (hla:AWs l) (hlb:AWs m) (hl:l.length+m.length≤900) :
 Calls prog 39 #[.slice a l.length ca,.slice b m.length cb] w fun e w'=>∃ ao co,e=.returned (.slice ao (mergeV (l++m)).length co)∧Ts w' ao (mergeV (l++m))∧(∀ b,(mergeV (l++m)≠[]∧∃ o,ao=some ⟨b,o,none⟩)→w.heap.size≤b)∧Below w.heap.size w w':=by
 have hGw:AWs (l++m):=fun x hx=>(List.mem_append.1 hx).elim (hla x) (hlb x);have HR:=rmerge_is (l++m) hGw;obtain⟨R,hR⟩:∃ R,mergeV (l++m)=R:=⟨_,rfl⟩
 rw[hR]at HR ⊢;obtain⟨G,hG⟩:∃ G,l++m=G:=⟨_,rfl⟩
 rw[hG]at HR;have HR0:Hid (R=rmergeGo [] (G.drop 0)):=(show R=_ from HR.symm)
 have hGl:G.length≤900:=by rw[← hG,List.length_append];exact hl
 have HGe:Hid (G.length=l.length+m.length∧flat G=flat l++flat m):=⟨by rw[← hG,List.length_append],by rw[← hG,flat_append]⟩
 have HP:Hid (∀ x w,Calls prog 79 #[tV x] w fun e w'=>e=.returned (.int .i64 (placeV x.1-1))∧Below w.heap.size w w'):=rplace_any;have HK:Hid (∀ x y w,Calls prog 80 #[tV x,tV y] w fun e w'=>e=.returned (.bool (alikeB x y))∧Below w.heap.size w w'):=alike_any;have HH:Hid (∀ x y w,Calls prog 81 #[tV x,tV y] w fun e w'=>e=.returned (.bool (aheadB x y))∧Below w.heap.size w w'):=ahead_any;clear hla hlb hGw HR hR hG;go_enter func39,ntmps39;go_wp2_with (at_builtin;refine wpList_app rfl (.tmp 12) (.tmp 13) rfl w.heap.size _ _ _ rfl (World.ownsRow_nil _ _ _ _) a ca l l.length rfl rfl ha (by omega) (Nat.le_refl _) ?_);intro v1 w1 o1 g1;have b1:Below w.heap.size w w1:=(Below.refl _ w).grown g1 (Nat.le_refl _) (fun q hq=>by cases hq);have o1':w1.ownsRow w.heap.size 95 3 v1 l.length (flat l):=by simpa using o1
 clear o1 g1;go_wp2_with (at_builtin;refine wpList_app rfl (.tmp 15) (.tmp 16) rfl w.heap.size _ _ _ rfl o1' b cb m m.length rfl rfl (hb.below b1) (by omega) b1.size ?_);intro v2 w2 o2 g2;have b2:Below w.heap.size w w2:=b1.grown g2 b1.size (fun q hq=>(o1'.lt q hq).1);have o2':w2.ownsRow w.heap.size 95 3 v2 G.length (flat G):=by rw[HGe.out.1,HGe.out.2];exact o2
 clear b1 o1' o2 g2 HGe hl;obtain⟨a2,c2,rfl,_,t2,_⟩:=own_ts o2';clear o2' ha hb;go_wp2_with fail;go_loopw [6,7,8,9,10,11] (fun v6 v7 _ _ _ _ wr=>∃ (k:Nat) (O:List A) (ao:Option Addr) (co:Nat),k≤G.length∧v7=.int .i64 k∧v6=.slice ao O.length co∧O.length≤co∧O.length≤k∧Hid (R=rmergeGo O (G.drop k))∧((O=[]∧ao=none∧co=0)∨(0<O.length∧∃ gO,ao=some ⟨gO,0,none⟩∧w.heap.size≤gO))∧Ts wr ao O∧Ts wr a2 G∧Below w.heap.size w wr) (fun _ v7 _ _ _ _ _=>G.length-(intOf v7).toNat);case atStart=>exact⟨0,[],none,0,Nat.zero_le _,rfl,rfl,Nat.le_refl _,Nat.le_refl _,HR0,.inl ⟨rfl,rfl,rfl⟩,.inl rfl,t2,b2⟩
 case round =>
  clear HR0 t2 b2;obtain⟨k,O,ao,co,hk,rfl,rfl,hOc,hOk,HRk,hAO,tO,tG,hbel⟩:=hrel;generalize wr=W at *
  by_cases hlt:k<G.length
  ·obtain⟨g,o,rfl,hg,hc⟩:=tG.at hlt;have ck:=hc k hlt;rw[← at_get G k hlt]at ck;obtain⟨X,hX⟩:∃ X,at' G k=X:=⟨_,rfl⟩
   rw[hX]at ck;have HX:Hid (at' G k=X):=hX;have HC:Hid (∀ i (h:i<G.length),C3 W g (o+i*3) (at' G i)):=(show ∀ i (h:i<G.length),_ from fun i h=>by rw[at_get G i h];exact hc i h)
   have HCX:Hid (C3 W g (o+k*3) X):=ck;obtain⟨c0,c1,c2'⟩:=ck;have HRA:Hid (rmergeGo O (G.drop k)=if lastIn X (G.drop (k+1))=true then rmergeGo (insR X O) (G.drop (k+1)) else rmergeGo O (G.drop (k+1))):=(show _=_ by rw[← hX];exact rgo_at O G k hlt)
   have HTG:Hid (Ts W (some ⟨g,o,none⟩) G):=tG;have HTO:Hid (Ts W ao O):=tO;have HAO:Hid _:=hAO;clear hX hc tG tO hAO;go_wp2_with fail;refine(HP.out X _).mono ?_;rintro r w3 ⟨rfl,g3⟩;have HKn:Hid (decide (0≤placeV X.1-1)=knownB X):=(show _=_ by
    have:=(place_range X.1).1;unfold knownB;rw[Bool.eq_iff_iff];simp;omega)
   generalize placeV X.1-1=p at *
   clear c0 c1 c2';go_wp2_with fail;go_loopw [8,9] (fun v8 v9 wr2=>∃ (j:Nat) (bb:Bool),k+1≤j∧j≤G.length∧v9=.int .i64 j∧v8=.bool bb∧Hid (bb=(knownB X&&noneB X ((G.drop (k+1)).take (j-(k+1)))))∧Below W.heap.size W wr2) (fun _ v9 _=>G.length-(intOf v9).toNat);case atStart=>exact⟨k+1,decide (0≤p),Nat.le_refl _,by omega,by first|rfl|go_num,rfl,(show _=_ by rw[HKn.out,Nat.sub_self,List.take_zero];simp[noneB]),g3⟩
   case round =>
    clear g3;obtain⟨j,bb,hj1,hj2,rfl,rfl,HBB,hb2⟩:=hrel;by_cases hjl:j<G.length
    ·have HY0:=HC.out j hjl;obtain⟨Y,hY⟩:∃ Y,at' G j=Y:=⟨_,rfl⟩
     have HST:Hid (noneB X ((G.drop (k+1)).take (j+1-(k+1)))=(noneB X ((G.drop (k+1)).take (j-(k+1))) && !alikeB X Y)):=(show _=_ by
      have:=none_snoc X (G.drop (k+1)) (j-(k+1)) (by rw[List.length_drop];omega);rw[show j+1-(k+1)=j-(k+1)+1 by omega,this,at_drop,show k+1+(j-(k+1))=j by omega,hY])
     rw[hY]at HY0;have qx:=C3.gr (HCX.out.below hg hb2) (Nat.lt_of_lt_of_le hg hb2.size);have qy:=C3.gr (HY0.below hg hb2) (Nat.lt_of_lt_of_le hg hb2.size);have x0:=fun n=>(qx n).1;have x1:=fun n=>(qx n).2.1;have x2:=fun n=>(qx n).2.2;have y0:=fun n=>(qy n).1;have y1:=fun n=>(qy n).2.1;have y2:=fun n=>(qy n).2.2;clear HY0 hY qx qy;cases bb with
     | false =>
       have HB3:Hid (false=(knownB X&&noneB X ((G.drop (k+1)).take (j+1-(k+1))))):=(show _=_ by rw[HST.out,← Bool.and_assoc,← HBB.out];rfl)
       go_wp2_with fail;refine wp_region_grow (by kernel_rfl) (by kernel_rfl) ?_;repeat (go_big_quiet_step ((go_at_call 80;exact quiet_gr (HK.out _ _ _))))
       refine wpQuiet_nil ?_;rintro w4 hw';have g4:=gr_elim hw';clear x0 x1 x2 y0 y1 y2 hw';go_wp2_with fail;go_roundw;case rel=>exact⟨j+1,false,by omega,by omega,by go_num,rfl,HB3,btr hb2 g4 (Nat.le_refl _)⟩
       case measure=>simp[intOf];omega
     | true =>
       have HB3:Hid ((!alikeB X Y)=(knownB X&&noneB X ((G.drop (k+1)).take (j+1-(k+1))))):=(show _=_ by rw[HST.out,← Bool.and_assoc,← HBB.out];rfl)
       have HKX:Hid (∀ w,Calls prog 80 #[tV X,tV Y] w fun e w'=>e=.returned (.bool (alikeB X Y))∧Below w.heap.size w w'):=(show ∀ w,_ from fun w=>HK.out X Y w)
       generalize alikeB X Y=al at *
       go_wp2_with fail;refine wp_region_grow (by kernel_rfl) (by kernel_rfl) ?_;repeat (go_big_quiet_step ((go_at_call 80;exact quiet_gr (HKX.out _))))
       refine wpQuiet_nil ?_;rintro w4 hw';have g4:=gr_elim hw';clear x0 x1 x2 y0 y1 y2 hw';go_wp2_with fail;go_roundw;case rel=>exact⟨j+1,!al,by omega,by omega,by go_num,rfl,HB3,btr hb2 g4 (Nat.le_refl _)⟩
       case measure=>simp[intOf];omega
    ·have HLI:Hid (lastIn X (G.drop (k+1))=bb):=(show _=_ by
      rw[HBB.out,List.take_of_length_le (by rw[List.length_drop];omega)];rfl)
     have hb3:=btr hbel hb2 (Nat.le_refl _);cases bb with
     | false =>
       go_wp2_with fail;go_roundw;case rel=>exact⟨k+1,O,ao,co,by omega,by first|rfl|go_num,rfl,hOc,by omega,(show R=_ by rw[HRk.out,HRA.out,HLI.out];simp),HAO.out,HTO.out.below hb2,HTG.out.below hb2,hb3⟩
       case measure=>simp[intOf];omega
     | true =>
       have HRN:Hid (R=rmergeGo (insR X O) (G.drop (k+1))):=(show R=_ by rw[HRk.out,HRA.out,HLI.out];simp)
       clear HLI HRA HRk HBB;go_wp2_with fail;go_loopw [10] (fun v10 wr3=>∃ t:Nat,t≤O.length∧v10=.int .i64 t∧Hid (∀ q,q<t→aheadB (at' O q) X=true)∧Below W.heap.size W wr3) (fun v10 _=>O.length-(intOf v10).toNat);case atStart=>exact⟨0,Nat.zero_le _,rfl,(show ∀ q,_ from fun q hq=>by omega),hb2⟩
       case round =>
        clear hb2 hb3;obtain⟨t,ht,rfl,HAH,hb2⟩:=hrel;by_cases htl:t<O.length
        ·rcases HAO.out with⟨hO,_,_⟩|⟨hpos,gO,rfl,hgOl⟩
         ·rw[hO]at htl;simp at htl
         ·obtain⟨g',o',e,hgO,hcO⟩:=HTO.out.at htl;cases e;have HCO:Hid (∀ i (h:i<O.length),C3 W gO (0+i*3) O[i]):=hcO;have hz:=hcO t htl;rw[← at_get O t htl,Nat.zero_add]at hz;obtain⟨Z,hZ⟩:∃ Z,at' O t=Z:=⟨_,rfl⟩
          rw[hZ]at hz;have qz:=C3.gr (hz.below hgO hb2) (Nat.lt_of_lt_of_le hgO hb2.size);have qx:=C3.gr (HCX.out.below hg hb2) (Nat.lt_of_lt_of_le hg hb2.size);have x0:=fun n=>(qx n).1;have x1:=fun n=>(qx n).2.1;have x2:=fun n=>(qx n).2.2;have y0:=fun n=>(qz n).1;have y1:=fun n=>(qz n).2.1;have y2:=fun n=>(qz n).2.2;have HHX:Hid (∀ w,Calls prog 81 #[tV Z,tV X] w fun e w'=>e=.returned (.bool (aheadB Z X))∧Below w.heap.size w w'):=(show ∀ w,_ from fun w=>HH.out Z X w)
          have HZ:Hid (at' O t=Z):=hZ;clear hcO hz qx qz hZ;cases hah:aheadB Z X with
          | true =>
            rw[hah]at HHX;go_wp2_with fail;refine wp_region_grow (by kernel_rfl) (by kernel_rfl) ?_;repeat (go_big_quiet_step ((go_at_call 81;exact quiet_gr (HHX.out _))))
            refine wpQuiet_nil ?_;rintro w5 hw';have g5:=gr_elim hw';clear hw' x0 x1 x2 y0 y1 y2;go_wp2_with fail;go_roundw;case rel=>exact⟨t+1,by omega,by go_num,(show ∀ q,_ from fun q hq=>by
             by_cases e:q=t
             ·rw[e,HZ.out];exact hah
             ·exact HAH.out q (by omega)),btr hb2 g5 (Nat.le_refl _)⟩
            case measure=>simp[intOf];omega
          | false =>
            rw[hah]at HHX;have HIN:Hid (insR X O=O.take t++X::O.drop t):=insR_eq X O t ht HAH.out (.inr (by rw[HZ.out];exact hah));go_wp2_with fail;refine wp_region_grow (by kernel_rfl) (by kernel_rfl) ?_;repeat (go_big_quiet_step ((go_at_call 81;exact quiet_gr (HHX.out _))))
            refine wpQuiet_nil ?_;rintro w5 hw';have g5:=gr_elim hw';clear hw' x0 x1 x2 y0 y1 y2 hah;have hb5:=btr hb2 g5 (Nat.le_refl _);have hX5:=HCX.out.below hg hb5;have tG5:=HTG.out.below hb5;have lg5:g<w5.heap.size:=Nat.lt_of_lt_of_le hg hb5.size;clear g5 hb2;have tO5:Ts w5 (some ⟨gO,0,none⟩) (O.take t):=(HTO.out.below hb5).take t;have tD5:Ts w5 (some ⟨gO,t*3,none⟩) (O.drop t):=by
             have hcO5:∀ i (h:i<O.length),C3 w5 gO (0+i*3) O[i]:=fun i h=>(HCO.out i h).below hgO hb5;have:=Ts.drop (Nat.lt_of_lt_of_le hgO hb5.size) hcO5 t;rw[Nat.zero_add]at this;exact this
            obtain⟨P1,hP1⟩:∃ P1,O.take t=P1:=⟨_,rfl⟩
            obtain⟨P2,hP2⟩:∃ P2,O.drop t=P2:=⟨_,rfl⟩
            have l1:P1.length=t:=by rw[← hP1,List.length_take];omega
            have l2:P2.length=(O.length-t):=by rw[← hP2,List.length_drop]
            rw[hP1]at tO5 HIN;rw[hP2]at tD5 HIN;have hil:=insR_len X O;have HIL:Hid ((insR X O).length=O.length+1):=hil;have HL1:Hid (P1.length=t):=l1;have HL2:Hid (P2.length=(O.length-t)):=l2;clear hP1 hP2 l1 l2 hil;go_wp2_with (at_builtin;refine wpList_app rfl (.tmp 70) (.tmp 73) rfl w5.heap.size _ _ _ rfl (World.ownsRow_nil _ _ _ _) (some ⟨gO,0,none⟩) _ P1 t HL1.out.symm rfl tO5 (by have:=HL1.out;omega) (Nat.le_refl _) ?_);intro v7 w7 o7 g7;have b7:Below w5.heap.size w5 w7:=(Below.refl _ w5).grown g7 (Nat.le_refl _) (fun q hq=>by cases hq);have o7':w7.ownsRow w5.heap.size 95 3 v7 P1.length (flat P1):=by simpa using o7
            obtain⟨d0,d1,d2⟩:=hX5.below lg5 b7;clear o7 g7;go_wp2_with (at_builtin;refine wpList_app rfl (.tmp 75) (.tmp 80) rfl w5.heap.size _ _ _ rfl (o7'.alloc _) (some ⟨w7.heap.size,0,none⟩) 1 [X] 1 rfl rfl (ts_new w7 X) (by have:=HL1.out;simp only[List.length_cons,List.length_nil];omega) (by have:=b7.size;simp;omega) ?_);intro v8 w8 o8 g8;have b8:Below w5.heap.size w5 w8:=(b7.alloc b7.size _).grown g8 (by have:=b7.size;simp;omega) (fun q hq=>(o7'.lt q hq).1);have o8':w8.ownsRow w5.heap.size 95 3 v8 (P1.length+1) (flat P1++flat [X]):=o8;clear o8 g8 o7' b7 d0 d1 d2;go_wp2_with (at_builtin;refine wpList_app rfl (.tmp 82) (.tmp 85) rfl w5.heap.size _ _ _ rfl o8' (some ⟨gO,t*3,none⟩) _ P2 (O.length-t) HL2.out.symm rfl (tD5.below b8) (by have:=HL1.out;have:=HL2.out;omega) b8.size ?_);intro v9 w9 o9 g9;have b9:Below w5.heap.size w5 w9:=b8.grown g9 b8.size (fun q hq=>(o8'.lt q hq).1);have o9':w9.ownsRow w5.heap.size 95 3 v9 (insR X O).length (flat (insR X O)):=by
             have e2:(insR X O).length=P1.length+1+P2.length:=by rw[HIL.out,HL1.out,HL2.out];omega
             have e3:flat (insR X O)=(flat P1++flat [X])++flat P2:=by rw[HIN.out,show P1++X::P2=(P1++[X])++P2 by simp,flat_append,flat_append]
             rw[e2,e3];first|exact o9|(rw[List.append_assoc];exact o9)
            clear o9 g9 o8' b8;obtain⟨a9,c9,rfl,lc9,t9,row9⟩:=own_ts o9';have hao9:(insR X O=[]∧a9=none∧c9=0)∨(0<(insR X O).length∧∃ gO,a9=some ⟨gO,0,none⟩∧w.heap.size≤gO):=by
             rcases row9 with e|⟨q,hq,hqb,_⟩
             ·have:=HIL.out;rw[e]at this;simp at this
             ·exact .inr ⟨by have:=HIL.out;omega,q,hq,by have:=hb5.size;have:=hbel.size;omega⟩
            have tG9:=tG5.below b9;have bb9:=btr hbel (btr hb5 b9 (Nat.le_refl _)) (Nat.le_refl _);clear row9 o9' tO5 tD5 hX5;obtain⟨O',hO'⟩:∃ O',insR X O=O':=⟨_,rfl⟩
            rw[hO']at HRN HIL t9 hao9 lc9 ⊢;have hil:=HIL.out;go_wp2_with fail;go_roundw;case rel=>exact⟨k+1,O',a9,c9,by omega,by first|rfl|go_num,rfl,lc9,by omega,HRN,hao9,t9,tG9,bb9⟩
            case measure=>simp[intOf];omega
        ·have hte:t=O.length:=by omega
         have HIN:Hid (insR X O=O.take t++X::O.drop t):=insR_eq X O t ht HAH.out (.inl hte);have hnl : ¬ (t:Int)<(O.length:Int):=by omega
         have hnd:decide ((t:Int)<(O.length:Int))=false:=decide_eq_false hnl;have HHX:Hid (∀ w,Calls prog 81 #[tV X,tV X] w fun e w'=>e=.returned (.bool (aheadB X X))∧Below w.heap.size w w'):=(show ∀ w,_ from fun w=>HH.out X X w)
         rcases HAO.out with⟨hO,hao0,hco0⟩|⟨hpos,gO,rfl,hgOl⟩
         ·have hO0:O.length=0:=by rw[hO];rfl
          have ht0:t=0:=by omega
          subst ht0 hao0 hco0;clear hO hte;rw[hO0]at hnl hnd ⊢;go_wp2_with fail;refine wp_region_grow (by kernel_rfl) (by kernel_rfl) ?_;repeat (go_big_quiet_step ((go_at_call 81;exact quiet_gr (HHX.out _))))
          refine wpQuiet_nil ?_;rintro w5 hw';have g5:=gr_elim hw';clear hw';have hb5:=btr hb2 g5 (Nat.le_refl _);have hX5:=HCX.out.below hg hb5;have tG5:=HTG.out.below hb5;have lg5:g<w5.heap.size:=Nat.lt_of_lt_of_le hg hb5.size;clear g5 hb2;have tO5:Ts w5 none (O.take 0):=.inl (List.length_eq_zero_iff.1 (by rw[List.length_take];omega));have tD5:Ts w5 none (O.drop 0):=.inl (List.length_eq_zero_iff.1 (by rw[List.length_drop];omega));obtain⟨P1,hP1⟩:∃ P1,O.take 0=P1:=⟨_,rfl⟩
          obtain⟨P2,hP2⟩:∃ P2,O.drop 0=P2:=⟨_,rfl⟩
          have l1:P1.length=0:=by rw[← hP1,List.length_take];omega
          have l2:P2.length=0:=by rw[← hP2,List.length_drop];omega
          rw[hP1]at tO5 HIN;rw[hP2]at tD5 HIN;have hil:=insR_len X O;have HIL:Hid ((insR X O).length=O.length+1):=hil;have HL1:Hid (P1.length=0):=l1;have HL2:Hid (P2.length=0):=l2;clear hP1 hP2 l1 l2 hil;go_wp2_with (at_builtin;refine wpList_app rfl (.tmp 70) (.tmp 73) rfl w5.heap.size _ _ _ rfl (World.ownsRow_nil _ _ _ _) none _ P1 0 HL1.out.symm rfl tO5 (by have:=HL1.out;omega) (Nat.le_refl _) ?_);intro v7 w7 o7 g7;have b7:Below w5.heap.size w5 w7:=(Below.refl _ w5).grown g7 (Nat.le_refl _) (fun q hq=>by cases hq);have o7':w7.ownsRow w5.heap.size 95 3 v7 P1.length (flat P1):=by simpa using o7
          obtain⟨d0,d1,d2⟩:=hX5.below lg5 b7;clear o7 g7;go_wp2_with (at_builtin;refine wpList_app rfl (.tmp 75) (.tmp 80) rfl w5.heap.size _ _ _ rfl (o7'.alloc _) (some ⟨w7.heap.size,0,none⟩) 1 [X] 1 rfl rfl (ts_new w7 X) (by have:=HL1.out;simp only[List.length_cons,List.length_nil];omega) (by have:=b7.size;simp;omega) ?_);intro v8 w8 o8 g8;have b8:Below w5.heap.size w5 w8:=(b7.alloc b7.size _).grown g8 (by have:=b7.size;simp;omega) (fun q hq=>(o7'.lt q hq).1);have o8':w8.ownsRow w5.heap.size 95 3 v8 (P1.length+1) (flat P1++flat [X]):=o8;clear o8 g8 o7' b7 d0 d1 d2;go_wp2_with (at_builtin;refine wpList_app rfl (.tmp 82) (.tmp 85) rfl w5.heap.size _ _ _ rfl o8' none _ P2 0 HL2.out.symm rfl (tD5.below b8) (by have:=HL1.out;have:=HL2.out;omega) b8.size ?_);intro v9 w9 o9 g9;have b9:Below w5.heap.size w5 w9:=b8.grown g9 b8.size (fun q hq=>(o8'.lt q hq).1);have o9':w9.ownsRow w5.heap.size 95 3 v9 (insR X O).length (flat (insR X O)):=by
           have e2:(insR X O).length=P1.length+1+P2.length:=by rw[HIL.out,HL1.out,HL2.out];omega
           have e3:flat (insR X O)=(flat P1++flat [X])++flat P2:=by rw[HIN.out,show P1++X::P2=(P1++[X])++P2 by simp,flat_append,flat_append]
           rw[e2,e3];first|exact o9|(rw[List.append_assoc];exact o9)
          clear o9 g9 o8' b8;obtain⟨a9,c9,rfl,lc9,t9,row9⟩:=own_ts o9';have hao9:(insR X O=[]∧a9=none∧c9=0)∨(0<(insR X O).length∧∃ gO,a9=some ⟨gO,0,none⟩∧w.heap.size≤gO):=by
           rcases row9 with e|⟨q,hq,hqb,_⟩
           ·have:=HIL.out;rw[e]at this;simp at this
           ·exact .inr ⟨by have:=HIL.out;omega,q,hq,by have:=hb5.size;have:=hbel.size;omega⟩
          have tG9:=tG5.below b9;have bb9:=btr hbel (btr hb5 b9 (Nat.le_refl _)) (Nat.le_refl _);clear row9 o9' tO5 tD5 hX5;obtain⟨O',hO'⟩:∃ O',insR X O=O':=⟨_,rfl⟩
          rw[hO']at HRN HIL t9 hao9 lc9 ⊢;have hil:=HIL.out;go_wp2_with fail;go_roundw;case rel=>exact⟨k+1,O',a9,c9,by omega,by first|rfl|go_num,rfl,lc9,by omega,HRN,hao9,t9,tG9,bb9⟩
          case measure=>simp[intOf];omega
         ·obtain⟨g',o',e,hgO,hcO⟩:=HTO.out.at (k:=0) hpos;cases e;have HCO:Hid (∀ i (h:i<O.length),C3 W gO (0+i*3) O[i]):=hcO;have HTE:Hid (t=O.length):=hte;clear hcO hte;by_cases hct:co=t
          ·subst hct;go_wp2_with fail;refine wp_region_grow (by kernel_rfl) (by kernel_rfl) ?_;repeat (go_big_quiet_step ((go_at_call 81;exact quiet_gr (HHX.out _))))
           refine wpQuiet_nil ?_;rintro w5 hw';have g5:=gr_elim hw';clear hw';have hb5:=btr hb2 g5 (Nat.le_refl _);have hX5:=HCX.out.below hg hb5;have tG5:=HTG.out.below hb5;have lg5:g<w5.heap.size:=Nat.lt_of_lt_of_le hg hb5.size;clear g5 hb2;have tO5:Ts w5 (some ⟨gO,0,none⟩) (O.take co):=(HTO.out.below hb5).take co;have tD5:Ts w5 (some ⟨gO,0,none⟩) (O.drop co):=.inl (List.length_eq_zero_iff.1 (by rw[List.length_drop];have:=HTE.out;omega));obtain⟨P1,hP1⟩:∃ P1,O.take co=P1:=⟨_,rfl⟩
           obtain⟨P2,hP2⟩:∃ P2,O.drop co=P2:=⟨_,rfl⟩
           have l1:P1.length=co:=by rw[← hP1,List.length_take];omega
           have l2:P2.length=0:=by rw[← hP2,List.length_drop];omega
           rw[hP1]at tO5 HIN;rw[hP2]at tD5 HIN;have hil:=insR_len X O;have HIL:Hid ((insR X O).length=O.length+1):=hil;have HL1:Hid (P1.length=co):=l1;have HL2:Hid (P2.length=0):=l2;clear hP1 hP2 l1 l2 hil;go_wp2_with (at_builtin;refine wpList_app rfl (.tmp 70) (.tmp 73) rfl w5.heap.size _ _ _ rfl (World.ownsRow_nil _ _ _ _) (some ⟨gO,0,none⟩) _ P1 co HL1.out.symm rfl tO5 (by have:=HL1.out;omega) (Nat.le_refl _) ?_);intro v7 w7 o7 g7;have b7:Below w5.heap.size w5 w7:=(Below.refl _ w5).grown g7 (Nat.le_refl _) (fun q hq=>by cases hq);have o7':w7.ownsRow w5.heap.size 95 3 v7 P1.length (flat P1):=by simpa using o7
           obtain⟨d0,d1,d2⟩:=hX5.below lg5 b7;clear o7 g7;go_wp2_with (at_builtin;refine wpList_app rfl (.tmp 75) (.tmp 80) rfl w5.heap.size _ _ _ rfl (o7'.alloc _) (some ⟨w7.heap.size,0,none⟩) 1 [X] 1 rfl rfl (ts_new w7 X) (by have:=HL1.out;simp only[List.length_cons,List.length_nil];omega) (by have:=b7.size;simp;omega) ?_);intro v8 w8 o8 g8;have b8:Below w5.heap.size w5 w8:=(b7.alloc b7.size _).grown g8 (by have:=b7.size;simp;omega) (fun q hq=>(o7'.lt q hq).1);have o8':w8.ownsRow w5.heap.size 95 3 v8 (P1.length+1) (flat P1++flat [X]):=o8;clear o8 g8 o7' b7 d0 d1 d2;go_wp2_with (at_builtin;refine wpList_app rfl (.tmp 82) (.tmp 85) rfl w5.heap.size _ _ _ rfl o8' (some ⟨gO,0,none⟩) _ P2 0 HL2.out.symm rfl (tD5.below b8) (by have:=HL1.out;have:=HL2.out;omega) b8.size ?_);intro v9 w9 o9 g9;have b9:Below w5.heap.size w5 w9:=b8.grown g9 b8.size (fun q hq=>(o8'.lt q hq).1);have o9':w9.ownsRow w5.heap.size 95 3 v9 (insR X O).length (flat (insR X O)):=by
            have e2:(insR X O).length=P1.length+1+P2.length:=by rw[HIL.out,HL1.out,HL2.out];omega
            have e3:flat (insR X O)=(flat P1++flat [X])++flat P2:=by rw[HIN.out,show P1++X::P2=(P1++[X])++P2 by simp,flat_append,flat_append]
            rw[e2,e3];first|exact o9|(rw[List.append_assoc];exact o9)
           clear o9 g9 o8' b8;obtain⟨a9,c9,rfl,lc9,t9,row9⟩:=own_ts o9';have hao9:(insR X O=[]∧a9=none∧c9=0)∨(0<(insR X O).length∧∃ gO,a9=some ⟨gO,0,none⟩∧w.heap.size≤gO):=by
            rcases row9 with e|⟨q,hq,hqb,_⟩
            ·have:=HIL.out;rw[e]at this;simp at this
            ·exact .inr ⟨by have:=HIL.out;omega,q,hq,by have:=hb5.size;have:=hbel.size;omega⟩
           have tG9:=tG5.below b9;have bb9:=btr hbel (btr hb5 b9 (Nat.le_refl _)) (Nat.le_refl _);clear row9 o9' tO5 tD5 hX5;obtain⟨O',hO'⟩:∃ O',insR X O=O':=⟨_,rfl⟩
           rw[hO']at HRN HIL t9 hao9 lc9 ⊢;have hil:=HIL.out;go_wp2_with fail;go_roundw;case rel=>exact⟨k+1,O',a9,c9,by omega,by first|rfl|go_num,rfl,lc9,by omega,HRN,hao9,t9,tG9,bb9⟩
           case measure=>simp[intOf];omega
          ·have hct':t<co:=by omega
           go_wp2_with fail;refine wp_region_grow (by kernel_rfl) (by kernel_rfl) ?_;repeat (go_big_quiet_step ((go_at_call 81;exact quiet_gr (HHX.out _))))
           refine wpQuiet_nil ?_;rintro w5 hw';have g5:=gr_elim hw';clear hw';have hb5:=btr hb2 g5 (Nat.le_refl _);have hX5:=HCX.out.below hg hb5;have tG5:=HTG.out.below hb5;have lg5:g<w5.heap.size:=Nat.lt_of_lt_of_le hg hb5.size;clear g5 hb2;have tO5:Ts w5 (some ⟨gO,0,none⟩) (O.take t):=(HTO.out.below hb5).take t;have tD5:Ts w5 (some ⟨gO,t*3,none⟩) (O.drop t):=by
            have hcO5:∀ i (h:i<O.length),C3 w5 gO (0+i*3) O[i]:=fun i h=>(HCO.out i h).below hgO hb5;have:=Ts.drop (Nat.lt_of_lt_of_le hgO hb5.size) hcO5 t;rw[Nat.zero_add]at this;exact this
           obtain⟨P1,hP1⟩:∃ P1,O.take t=P1:=⟨_,rfl⟩
           obtain⟨P2,hP2⟩:∃ P2,O.drop t=P2:=⟨_,rfl⟩
           have l1:P1.length=t:=by rw[← hP1,List.length_take];omega
           have l2:P2.length=(O.length-t):=by rw[← hP2,List.length_drop]
           rw[hP1]at tO5 HIN;rw[hP2]at tD5 HIN;have hil:=insR_len X O;have HIL:Hid ((insR X O).length=O.length+1):=hil;have HL1:Hid (P1.length=t):=l1;have HL2:Hid (P2.length=(O.length-t)):=l2;clear hP1 hP2 l1 l2 hil;go_wp2_with (at_builtin;refine wpList_app rfl (.tmp 70) (.tmp 73) rfl w5.heap.size _ _ _ rfl (World.ownsRow_nil _ _ _ _) (some ⟨gO,0,none⟩) _ P1 t HL1.out.symm rfl tO5 (by have:=HL1.out;omega) (Nat.le_refl _) ?_);intro v7 w7 o7 g7;have b7:Below w5.heap.size w5 w7:=(Below.refl _ w5).grown g7 (Nat.le_refl _) (fun q hq=>by cases hq);have o7':w7.ownsRow w5.heap.size 95 3 v7 P1.length (flat P1):=by simpa using o7
           obtain⟨d0,d1,d2⟩:=hX5.below lg5 b7;clear o7 g7;go_wp2_with (at_builtin;refine wpList_app rfl (.tmp 75) (.tmp 80) rfl w5.heap.size _ _ _ rfl (o7'.alloc _) (some ⟨w7.heap.size,0,none⟩) 1 [X] 1 rfl rfl (ts_new w7 X) (by have:=HL1.out;simp only[List.length_cons,List.length_nil];omega) (by have:=b7.size;simp;omega) ?_);intro v8 w8 o8 g8;have b8:Below w5.heap.size w5 w8:=(b7.alloc b7.size _).grown g8 (by have:=b7.size;simp;omega) (fun q hq=>(o7'.lt q hq).1);have o8':w8.ownsRow w5.heap.size 95 3 v8 (P1.length+1) (flat P1++flat [X]):=o8;clear o8 g8 o7' b7 d0 d1 d2;go_wp2_with (at_builtin;refine wpList_app rfl (.tmp 82) (.tmp 85) rfl w5.heap.size _ _ _ rfl o8' (some ⟨gO,t*3,none⟩) _ P2 (O.length-t) HL2.out.symm rfl (tD5.below b8) (by have:=HL1.out;have:=HL2.out;omega) b8.size ?_);intro v9 w9 o9 g9;have b9:Below w5.heap.size w5 w9:=b8.grown g9 b8.size (fun q hq=>(o8'.lt q hq).1);have o9':w9.ownsRow w5.heap.size 95 3 v9 (insR X O).length (flat (insR X O)):=by
            have e2:(insR X O).length=P1.length+1+P2.length:=by rw[HIL.out,HL1.out,HL2.out];omega
            have e3:flat (insR X O)=(flat P1++flat [X])++flat P2:=by rw[HIN.out,show P1++X::P2=(P1++[X])++P2 by simp,flat_append,flat_append]
            rw[e2,e3];first|exact o9|(rw[List.append_assoc];exact o9)
           clear o9 g9 o8' b8;obtain⟨a9,c9,rfl,lc9,t9,row9⟩:=own_ts o9';have hao9:(insR X O=[]∧a9=none∧c9=0)∨(0<(insR X O).length∧∃ gO,a9=some ⟨gO,0,none⟩∧w.heap.size≤gO):=by
            rcases row9 with e|⟨q,hq,hqb,_⟩
            ·have:=HIL.out;rw[e]at this;simp at this
            ·exact .inr ⟨by have:=HIL.out;omega,q,hq,by have:=hb5.size;have:=hbel.size;omega⟩
           have tG9:=tG5.below b9;have bb9:=btr hbel (btr hb5 b9 (Nat.le_refl _)) (Nat.le_refl _);clear row9 o9' tO5 tD5 hX5;obtain⟨O',hO'⟩:∃ O',insR X O=O':=⟨_,rfl⟩
           rw[hO']at HRN HIL t9 hao9 lc9 ⊢;have hil:=HIL.out;go_wp2_with fail;go_roundw;case rel=>exact⟨k+1,O',a9,c9,by omega,by first|rfl|go_num,rfl,lc9,by omega,HRN,hao9,t9,tG9,bb9⟩
           case measure=>simp[intOf];omega
  ·have hk':k=G.length:=by omega
   subst hk';have e:O=R:=by rw[HRk.out,List.drop_length];rfl
   subst e;go_wp2_with fail;go_ret;exact⟨ao,co,rfl,tO,fun b hb=>by
    rcases hAO with⟨h1,_,_⟩|⟨_,gO,h2,h3⟩
    ·exact absurd h1 hb.1
    ·obtain⟨_,o',h4⟩:=hb;rw[h2]at h4;cases h4;exact h3,hbel⟩
theorem rmerge_any (a b:Option Addr) (l m:List A) (ca cb:Nat) (w:World) (ha:Ts w a l) (hb:Ts w b m) (hla:AWs l) (hlb:AWs m) (hl:l.length+m.length≤900) :
 Calls prog 39 #[.slice a l.length ca,.slice b m.length cb] w fun e w'=>∃ ao co,e=.returned (.slice ao (mergeV (l++m)).length co)∧Ts w' ao (mergeV (l++m))∧Below w.heap.size w w' :=
 (rmerge_loc a b l m ca cb w ha hb hla hlb hl).mono fun _ _ ⟨ao,co,h1,h2,_,h3⟩=>⟨ao,co,h1,h2,h3⟩
end Sr
end Go.Proofs.YtgnihbdcdefdgaaGreatDoor

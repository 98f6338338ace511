import Derived.Test.YtlcbfdiohcbpbaaGreatDoorRSeT
import Derived.Test.YtlcbfdiohcbpbaaGreatDoorREnc8
namespace Go.Proofs.YtlcbfdiohcbpbaaGreatDoor
set_option maxRecDepth 20000
set_option maxHeartbeats 16000000
open Go.ChangeShapes Go.WideShapes Go.ChangeAt Go.RowKit
set_option linter.unusedVariables false
set_option linter.unusedSimpArgs false
theorem sz2_num (d:ByteArray) (h:8≤d.size):sz2 d=numB d 2 2:=by
  have e:d=d.extract 0 1 ++ (d.extract 1 2 ++ (d.extract 2 4 ++ d.extract 4 d.size)):=by
    apply ba_ext
    simp only [ba_append,ByteArray.data_extract,Array.toList_extract,List.extract_eq_take_drop]
    have h1:d.data.toList.length=d.size:=by simp
    generalize d.data.toList=l at *
    match l,h1 with
    | a :: b :: c :: f :: l,h1 =>
      simp at h1 ⊢
      rw [List.take_of_length_le (by omega)]
    | [],h1=>simp at h1;omega
    | [_],h1=>simp at h1;omega
    | [_,_],h1=>simp at h1;omega
    | [_,_,_],h1=>simp at h1;omega
  have s0:(d.extract 0 1).size=1:=by rw [ByteArray.size_extract];omega
  have s1:(d.extract 1 2).size=1:=by rw [ByteArray.size_extract];omega
  have s2:(d.extract 2 4).size=2:=by rw [ByteArray.size_extract];omega
  generalize d.extract 0 1=a at *
  generalize d.extract 1 2=b at *
  generalize d.extract 2 4=c at *
  generalize d.extract 4 d.size=f at *
  subst e
  have l:sz2 (a ++ (b ++ (c ++ f)))=numOf c.data.toList:=by
    unfold sz2
    have k1:(⟨a ++ (b ++ (c ++ f)),0⟩:RS).skip 1=⟨b ++ (c ++ f),0⟩:=skip_ap a _ 1 s0 (by decide)
    have k2:(⟨b ++ (c ++ f),0⟩:RS).skip 1=⟨c ++ f,0⟩:=skip_ap b _ 1 s1 (by decide)
    rw [k1,k2]
    exact Mt.num_raw c f s2
  have r:partB (a ++ (b ++ (c ++ f))) 2 2=c:=by
    rw [← ap_assoc a b]
    exact partB_ap (a ++ b) c f 2 2 (by rw [ByteArray.size_append,s0,s1]) s2
  unfold numB
  rw [l,r]
theorem idx0 (d:ByteArray) (h:0 < d.size) (w:World):(Instr.index 9 (.string d) (.int .i64 0)).run Tryz.prog w=.ok (.int .u8 (sz1 d)) w:=by
 have e:sz1 d=((d[0]).toNat:Int):=by
  unfold sz1 RS.num numV takeV
  have hle:(1:Int)≤(d.size:Int):=by omega
  have hs:szB 1=true:=by decide
  simp only [hs,hle,and_self,if_true]
  have x:(d.extract 0 (Int.toNat 1)).data.toList=d.data.toList.take (0 + 1):=by
   simp [ByteArray.data_extract,Array.toList_extract,List.extract_eq_take_drop]
  rw [x,numOf_take d 0 h]
  simp only [List.take_zero]
  rw [show numOf []=0 from rfl,stepN_eq 0 d[0] (by omega) (by omega)]
  omega
 rw [e]
 simp [go_sem,run_index_string,Tryz.underlying9,h]
theorem str_ne' {a b:ByteArray} (h:a≠b):(a.toList == b.toList)=false:=by
 rw [beq_eq_false_iff_ne]
 intro e
 apply h
 apply ba_ext
 rw [← ByteArray.toList_eq,← ByteArray.toList_eq]
 exact e
abbrev RRj (k:Int) (w:World) (e:Ending) (w':World):Prop:=∃ m:Ms,e=.returned (.tuple #[msV m,.int .i64 0,.int .i64 k])∧m.msg=ms0.msg∧MW w' m∧MU m∧Below w.heap.size w w'
theorem rdc_short (d:ByteArray) (w:World) (h:d.size < 8):Calls Tryz.prog 14 #[.string d] w (RRj 10 w):=by
 obtain ⟨W1,hW1⟩:∃ W1,rx w ms0=W1:=⟨_,rfl⟩
 have hG:Below w.heap.size w W1:=by rw [← hW1];go_grown
 have hT:W1.there w.heap.size 0 26:=hW1 ▸ there_new w (msC ms0) 42
 have z1:w.heap.size < W1.heap.size:=by rw [← hW1];simp
 have HW1:Hid (w.alloc (.cells #[.int .i64 0,.int .i64 0,.int .i64 0,.bool false,.int .i64 0,.int .i64 0,.slice none 0 0,.slice none 0 0,.slice none 0 0,.bool false,.int .u64 0,.int .u64 0,.int .i64 0,.int .i64 0,.int .i64 0,.int .i64 0,.slice none 0 0,.int .i64 0,.int .i64 0,.int .i64 0,.int .i64 0,.int .i64 0,.int .i64 0,.bool false,.slice none 0 0,.string ⟨#[]⟩] 42)=W1):=hW1
 have h':(d.size:Int) < 8:=by omega
 have HO:Hid (∀ V,Only w.heap.size W1 V→Below w.heap.size w V):=(show ∀ V,_ from fun V o=>o.belowK (Nat.le_refl _) hG)
 have hTT:(w.alloc (.cells #[.int .i64 0,.int .i64 0,.int .i64 0,.bool false,.int .i64 0,.int .i64 0,.slice none 0 0,.slice none 0 0,.slice none 0 0,.bool false,.int .u64 0,.int .u64 0,.int .i64 0,.int .i64 0,.int .i64 0,.int .i64 0,.slice none 0 0,.int .i64 0,.int .i64 0,.int .i64 0,.int .i64 0,.int .i64 0,.int .i64 0,.bool false,.slice none 0 0,.string ⟨#[]⟩] 42)).there w.heap.size 0 26:=there_new w (msC ms0) 42
 have HOO:Hid (∀ V,Only w.heap.size (w.alloc (.cells #[.int .i64 0,.int .i64 0,.int .i64 0,.bool false,.int .i64 0,.int .i64 0,.slice none 0 0,.slice none 0 0,.slice none 0 0,.bool false,.int .u64 0,.int .u64 0,.int .i64 0,.int .i64 0,.int .i64 0,.int .i64 0,.slice none 0 0,.int .i64 0,.int .i64 0,.int .i64 0,.int .i64 0,.int .i64 0,.int .i64 0,.bool false,.slice none 0 0,.string ⟨#[]⟩] 42)) V→Below w.heap.size w V):=(show ∀ V,_ from fun V o=>HO.out V (HW1.out ▸ o))
 clear hW1 hG hT z1 HW1 HO
 go_enter Tryz.func14,Tryz.ntmps14
 go_wp2_with (refine store_R rfl (.tmp 2) (.tmp 12) rfl w.heap.size ms0 rfl rfl hTT ?_;intro V bV tV oV)
 have g:=HOO.out V oV
 refine bodyPost_ret (resRee (b:=w.heap.size) (m:=ms0) rfl rfl bV) rfl ?_
 exact ⟨ms0,rfl,rfl,ms0_w _,mu0 0 0,g⟩
theorem rdc_first (d:ByteArray) (w:World) (h8:8≤d.size) (hs:d.size≤100000) (h1:sz1 d≠4):Calls Tryz.prog 14 #[.string d] w (RRj 11 w):=by
 obtain ⟨W1,hW1⟩:∃ W1,rx w ms0=W1:=⟨_,rfl⟩
 have hG:Below w.heap.size w W1:=by rw [← hW1];go_grown
 have hT:W1.there w.heap.size 0 26:=hW1 ▸ there_new w (msC ms0) 42
 have z1:w.heap.size < W1.heap.size:=by rw [← hW1];simp
 have HW1:Hid (w.alloc (.cells #[.int .i64 0,.int .i64 0,.int .i64 0,.bool false,.int .i64 0,.int .i64 0,.slice none 0 0,.slice none 0 0,.slice none 0 0,.bool false,.int .u64 0,.int .u64 0,.int .i64 0,.int .i64 0,.int .i64 0,.int .i64 0,.slice none 0 0,.int .i64 0,.int .i64 0,.int .i64 0,.int .i64 0,.int .i64 0,.int .i64 0,.bool false,.slice none 0 0,.string ⟨#[]⟩] 42)=W1):=hW1
 have h8' : ¬ ((d.size:Int) < 8):=by omega
 have hix:=idx0 d (by omega)
 have HN:Hid (Calls Tryz.prog 24 #[.string d,.int .i64 2,.int .i64 2] W1 fun e w'=>e=.returned (.int .i64 (sz2 d))∧w'.there w.heap.size 0 26∧Below w.heap.size w w'∧w.heap.size < w'.heap.size):=(show Calls _ _ _ _ _ from by
  rw [sz2_num d h8]
  exact (r8num d 2 2 W1 (by omega) (by omega) (by omega)).mono fun _ w' ⟨h1,h2⟩=>⟨h1,there_block hT (h2.block _ z1),btr hG h2 (Nat.le_refl _),Nat.lt_of_lt_of_le z1 h2.size⟩)
 obtain ⟨b0,b1⟩:=sz1_lt d
 obtain ⟨c0,c1⟩:=sz2_lt d
 have k1:(sz1 d != 4)=true:=by simpa using h1
 clear hW1 hG hT z1
 generalize sz1 d=Z1 at *
 generalize sz2 d=Z2 at *
 go_enter Tryz.func14,Tryz.ntmps14
 go_wp2_with fail
 rw [HW1.out]
 refine HN.out.mono ?_
 rintro r w1 ⟨rfl,t1,g1,s1⟩
 have HO:Hid (∀ V,Only w.heap.size w1 V→Below w.heap.size w V):=(show ∀ V,_ from fun V o=>o.belowK (Nat.le_refl _) g1)
 clear g1 s1
 go_wp2_with (refine store_R rfl (.tmp 2) (.tmp 22) rfl w.heap.size ms0 rfl rfl t1 ?_;intro V bV tV oV)
 have g:=HO.out V oV
 refine bodyPost_ret (resRee (b:=w.heap.size) (m:=ms0) rfl rfl bV) rfl ?_
 exact ⟨ms0,rfl,rfl,ms0_w _,mu0 0 0,g⟩
theorem rdc_low (d:ByteArray) (w:World) (h8:8≤d.size) (hs:d.size≤100000) (h1:sz1 d=4) (h2:sz2 d < 8):Calls Tryz.prog 14 #[.string d] w (RRj 11 w):=by
 obtain ⟨W1,hW1⟩:∃ W1,rx w ms0=W1:=⟨_,rfl⟩
 have hG:Below w.heap.size w W1:=by rw [← hW1];go_grown
 have hT:W1.there w.heap.size 0 26:=hW1 ▸ there_new w (msC ms0) 42
 have z1:w.heap.size < W1.heap.size:=by rw [← hW1];simp
 have HW1:Hid (w.alloc (.cells #[.int .i64 0,.int .i64 0,.int .i64 0,.bool false,.int .i64 0,.int .i64 0,.slice none 0 0,.slice none 0 0,.slice none 0 0,.bool false,.int .u64 0,.int .u64 0,.int .i64 0,.int .i64 0,.int .i64 0,.int .i64 0,.slice none 0 0,.int .i64 0,.int .i64 0,.int .i64 0,.int .i64 0,.int .i64 0,.int .i64 0,.bool false,.slice none 0 0,.string ⟨#[]⟩] 42)=W1):=hW1
 have h8' : ¬ ((d.size:Int) < 8):=by omega
 have hix:=idx0 d (by omega)
 have HN:Hid (Calls Tryz.prog 24 #[.string d,.int .i64 2,.int .i64 2] W1 fun e w'=>e=.returned (.int .i64 (sz2 d))∧w'.there w.heap.size 0 26∧Below w.heap.size w w'∧w.heap.size < w'.heap.size):=(show Calls _ _ _ _ _ from by
  rw [sz2_num d h8]
  exact (r8num d 2 2 W1 (by omega) (by omega) (by omega)).mono fun _ w' ⟨h1,h2⟩=>⟨h1,there_block hT (h2.block _ z1),btr hG h2 (Nat.le_refl _),Nat.lt_of_lt_of_le z1 h2.size⟩)
 obtain ⟨b0,b1⟩:=sz1_lt d
 obtain ⟨c0,c1⟩:=sz2_lt d
 have k1:(sz1 d != 4)=false:=by simp [h1]
 clear h1
 clear hW1 hG hT z1
 generalize sz1 d=Z1 at *
 generalize sz2 d=Z2 at *
 go_enter Tryz.func14,Tryz.ntmps14
 go_wp2_with fail
 rw [HW1.out]
 refine HN.out.mono ?_
 rintro r w1 ⟨rfl,t1,g1,s1⟩
 have HO:Hid (∀ V,Only w.heap.size w1 V→Below w.heap.size w V):=(show ∀ V,_ from fun V o=>o.belowK (Nat.le_refl _) g1)
 clear g1 s1
 go_wp2_with (refine store_R rfl (.tmp 2) (.tmp 22) rfl w.heap.size ms0 rfl rfl t1 ?_;intro V bV tV oV)
 have g:=HO.out V oV
 refine bodyPost_ret (resRee (b:=w.heap.size) (m:=ms0) rfl rfl bV) rfl ?_
 exact ⟨ms0,rfl,rfl,ms0_w _,mu0 0 0,g⟩
theorem rdc_end (d:ByteArray) (w:World) (h8:8≤d.size) (hs:d.size≤100000) (h1:sz1 d=4) (h2 : ¬ sz2 d < 8) (h3:(d.size:Int) < sz2 d):Calls Tryz.prog 14 #[.string d] w (RRj 10 w):=by
 obtain ⟨W1,hW1⟩:∃ W1,rx w ms0=W1:=⟨_,rfl⟩
 have hG:Below w.heap.size w W1:=by rw [← hW1];go_grown
 have hT:W1.there w.heap.size 0 26:=hW1 ▸ there_new w (msC ms0) 42
 have z1:w.heap.size < W1.heap.size:=by rw [← hW1];simp
 have HW1:Hid (w.alloc (.cells #[.int .i64 0,.int .i64 0,.int .i64 0,.bool false,.int .i64 0,.int .i64 0,.slice none 0 0,.slice none 0 0,.slice none 0 0,.bool false,.int .u64 0,.int .u64 0,.int .i64 0,.int .i64 0,.int .i64 0,.int .i64 0,.slice none 0 0,.int .i64 0,.int .i64 0,.int .i64 0,.int .i64 0,.int .i64 0,.int .i64 0,.bool false,.slice none 0 0,.string ⟨#[]⟩] 42)=W1):=hW1
 have h8' : ¬ ((d.size:Int) < 8):=by omega
 have hix:=idx0 d (by omega)
 have HN:Hid (Calls Tryz.prog 24 #[.string d,.int .i64 2,.int .i64 2] W1 fun e w'=>e=.returned (.int .i64 (sz2 d))∧w'.there w.heap.size 0 26∧Below w.heap.size w w'∧w.heap.size < w'.heap.size):=(show Calls _ _ _ _ _ from by
  rw [sz2_num d h8]
  exact (r8num d 2 2 W1 (by omega) (by omega) (by omega)).mono fun _ w' ⟨h1,h2⟩=>⟨h1,there_block hT (h2.block _ z1),btr hG h2 (Nat.le_refl _),Nat.lt_of_lt_of_le z1 h2.size⟩)
 obtain ⟨b0,b1⟩:=sz1_lt d
 obtain ⟨c0,c1⟩:=sz2_lt d
 have k1:(sz1 d != 4)=false:=by simp [h1]
 clear h1
 clear hW1 hG hT z1
 generalize sz1 d=Z1 at *
 generalize sz2 d=Z2 at *
 go_enter Tryz.func14,Tryz.ntmps14
 go_wp2_with fail
 rw [HW1.out]
 refine HN.out.mono ?_
 rintro r w1 ⟨rfl,t1,g1,s1⟩
 have HO:Hid (∀ V,Only w.heap.size w1 V→Below w.heap.size w V):=(show ∀ V,_ from fun V o=>o.belowK (Nat.le_refl _) g1)
 clear g1 s1
 go_wp2_with (refine store_R rfl (.tmp 2) (.tmp 27) rfl w.heap.size ms0 rfl rfl t1 ?_;intro V bV tV oV)
 have g:=HO.out V oV
 refine bodyPost_ret (resRee (b:=w.heap.size) (m:=ms0) rfl rfl bV) rfl ?_
 exact ⟨ms0,rfl,rfl,ms0_w _,mu0 0 0,g⟩
theorem rdc_good (d:ByteArray) (w:World) (h8:8≤d.size) (hs:d.size≤65535) (he:saidE d=0) (r1:errM (seM (headB d))=0) (r2:encM (seM (headB d))=headB d):Calls Tryz.prog 14 #[.string d] w fun e w'=>∃ m:Ms,e=.returned (.tuple #[msV m,.int .i64 (saidZ d),.int .i64 0])∧m.msg=seM (headB d)∧MW w' m∧MU m∧Below w.heap.size w w':=by
 obtain ⟨l0,l1,l2⟩:=said_le he
 have eZ:saidZ d=sz2 d:=by unfold saidZ;rw [if_pos he]
 have h14:sz1 d=4∧¬ sz2 d < 8∧¬ (d.size:Int) < sz2 d:=by
  unfold saidE at he
  split at he
  ·cases he
  ·split at he
   ·cases he
   ·next q =>
    split at he
    ·cases he
    ·next q2=>exact ⟨Decidable.byContradiction fun q3=>q (.inl q3),fun q3=>q (.inr q3),q2⟩
 obtain ⟨h1,h2,h3⟩:=h14
 obtain ⟨W1,hW1⟩:∃ W1,rx w ms0=W1:=⟨_,rfl⟩
 have hG:Below w.heap.size w W1:=by rw [← hW1];go_grown
 have hT:W1.there w.heap.size 0 26:=hW1 ▸ there_new w (msC ms0) 42
 have z1:w.heap.size < W1.heap.size:=by rw [← hW1];simp
 have HW1:Hid (w.alloc (.cells #[.int .i64 0,.int .i64 0,.int .i64 0,.bool false,.int .i64 0,.int .i64 0,.slice none 0 0,.slice none 0 0,.slice none 0 0,.bool false,.int .u64 0,.int .u64 0,.int .i64 0,.int .i64 0,.int .i64 0,.int .i64 0,.slice none 0 0,.int .i64 0,.int .i64 0,.int .i64 0,.int .i64 0,.int .i64 0,.int .i64 0,.bool false,.slice none 0 0,.string ⟨#[]⟩] 42)=W1):=hW1
 have h8' : ¬ ((d.size:Int) < 8):=by omega
 have hix:=idx0 d (by omega)
 have HN:Hid (Calls Tryz.prog 24 #[.string d,.int .i64 2,.int .i64 2] W1 fun e w'=>e=.returned (.int .i64 (sz2 d))∧w'.there w.heap.size 0 26∧Below w.heap.size w w'∧w.heap.size < w'.heap.size):=(show Calls _ _ _ _ _ from by
  rw [sz2_num d h8]
  exact (r8num d 2 2 W1 (by omega) (by omega) (by omega)).mono fun _ w' ⟨h1,h2⟩=>⟨h1,there_block hT (h2.block _ z1),btr hG h2 (Nat.le_refl _),Nat.lt_of_lt_of_le z1 h2.size⟩)
 obtain ⟨b0,b1⟩:=sz1_lt d
 obtain ⟨c0,c1⟩:=sz2_lt d
 have k1:(sz1 d != 4)=false:=by simp [h1]
 have hsl:∀ w,(Instr.slice 9 (.string d) none (some (.int .i64 (sz2 d))) none).run Tryz.prog w=.ok (.string (headB d)) w:=fun w=>by
  have:=slice_h d (sz2 d) (by omega) (by omega) w
  unfold headB
  rwa [eZ]
 have hz8:8≤(headB d).size:=by unfold headB;rw [ByteArray.size_extract,eZ];omega
 have hzz:=headB_size d he
 have HR:Hid (∀ w1,Below w.heap.size w w1→Calls Tryz.prog 25 #[.string (headB d)] w1 fun e w'=>∃ m:Ms,e=.returned (msV m)∧Hid (m.msg=seM (headB d)∧(∀ V,Keeps w1.heap.size w' V→MW V m)∧MU m)∧Below w1.heap.size w1 w'):=(show ∀ w1,_ from fun w1 g=>(seems_any (headB d) w1 hz8 hzz).mono fun _ _ ⟨m,h1,h2,h3,h4,h5⟩=>⟨m,h1,(show _∧_ from ⟨h2,h3,h4⟩),h5⟩)
 have HE:Hid (∀ (m:Ms) w1,m.msg=seM (headB d)→MW w1 m→MU m→Calls Tryz.prog 11 #[msV m] w1 fun e w'=>e=.returned (.tuple #[.string (encM (seM (headB d))),.int .i64 (errM (seM (headB d)))])∧Below w1.heap.size w1 w'):=(show ∀ m w1,_ from fun m w1 h1 h2 h3=>h1 ▸ rencode_M m w1 h2 h3)
 rw [eZ]
 clear hW1 hG hT z1 he l0 l1 l2 eZ h1 hz8 hzz hs
 generalize errM (seM (headB d))=XE at *
 generalize encM (seM (headB d))=EN at *
 generalize seM (headB d)=R at *
 generalize headB d=D at *
 generalize sz1 d=Z1 at *
 generalize sz2 d=Z2 at *
 subst r1 r2
 go_enter Tryz.func14,Tryz.ntmps14
 go_wp2_with fail
 rw [HW1.out]
 refine HN.out.mono ?_
 rintro r w1 ⟨rfl,t1,g1,s1⟩
 go_wp2_with fail
 refine (HR.out _ g1).mono ?_
 rintro r w2 ⟨m,rfl,HM,g2⟩
 have t2:=there_block t1 (g2.block w.heap.size s1)
 have G2:Below w.heap.size w w2:=btr g1 g2 (Nat.le_refl _)
 have s2:w.heap.size < w2.heap.size:=Nat.lt_of_lt_of_le s1 g2.size
 have hY:(w2.alloc (.cells #[.int .i64 0,.int .i64 0,.int .i64 0,.bool false,.int .i64 0,.int .i64 0,.slice none 0 0,.slice none 0 0,.slice none 0 0,.bool false,.int .u64 0,.int .u64 0,.int .i64 0,.int .i64 0,.int .i64 0,.int .i64 0,.slice none 0 0,.int .i64 0,.int .i64 0,.int .i64 0,.int .i64 0,.int .i64 0,.int .i64 0,.bool false,.slice none 0 0,.string ⟨#[]⟩] 42)).there w2.heap.size 0 26:=there_new w2 (msC ms0) 42
 have HV:Hid (∀ V,Only w2.heap.size (w2.alloc (.cells #[.int .i64 0,.int .i64 0,.int .i64 0,.bool false,.int .i64 0,.int .i64 0,.slice none 0 0,.slice none 0 0,.slice none 0 0,.bool false,.int .u64 0,.int .u64 0,.int .i64 0,.int .i64 0,.int .i64 0,.int .i64 0,.slice none 0 0,.int .i64 0,.int .i64 0,.int .i64 0,.int .i64 0,.int .i64 0,.int .i64 0,.bool false,.slice none 0 0,.string ⟨#[]⟩] 42)) V→V.there w.heap.size 0 26∧Below w2.heap.size w2 V∧w2.heap.size < V.heap.size):=(show ∀ V,_ from fun V o=>by
  have gA:Below w2.heap.size w2 (w2.alloc (.cells #[.int .i64 0,.int .i64 0,.int .i64 0,.bool false,.int .i64 0,.int .i64 0,.slice none 0 0,.slice none 0 0,.slice none 0 0,.bool false,.int .u64 0,.int .u64 0,.int .i64 0,.int .i64 0,.int .i64 0,.int .i64 0,.slice none 0 0,.int .i64 0,.int .i64 0,.int .i64 0,.int .i64 0,.int .i64 0,.int .i64 0,.bool false,.slice none 0 0,.string ⟨#[]⟩] 42)):=by go_grown
  have gV:=o.belowK (Nat.le_refl _) gA
  exact ⟨there_block t2 (gV.block _ s2),gV,by rw [o.size];simp⟩)
 clear g2 t1 g1
 go_wp2_with (first | (refine store_R rfl (.tmp 6) (.tmp 31) rfl w2.heap.size m rfl rfl hY ?_;intro V bV tV oV) | (refine load_Rg rfl (.tmp 6) rfl w2.heap.size m rfl bV ?_))
 obtain ⟨t3,g3,s3⟩:=HV.out V oV
 have G3:Below w.heap.size w V:=btr G2 g3 (Nat.le_refl _)
 refine (HE.out m V HM.out.1 (HM.out.2.1 _ ⟨g3.size,fun g _ hg=>g3.block g hg⟩) HM.out.2.2).mono ?_
 rintro r w4 ⟨rfl,g4⟩
 have b4:=bV.block (g4.block w2.heap.size s3)
 have t4:=there_block t3 (g4.block w.heap.size (by omega))
 have G4:Below w.heap.size w w4:=btr G3 g4 (Nat.le_refl _)
 have HX:Hid (∀ V,Only w.heap.size w4 V→MW V m∧Below w.heap.size w V):=(show ∀ V',_ from fun V' o=>⟨HM.out.2.1 _ ⟨by rw [o.size];exact Nat.le_trans g3.size g4.size,fun g h1 h2=>(o.block g (by omega)).trans ((g4.block g (by omega)).trans (g3.block g h2))⟩,o.belowK (Nat.le_refl _) G4⟩)
 clear bV tV oV t3 g3 HV hY t2
 go_wp2_with (first | (refine load_Rg rfl (.tmp 6) rfl w2.heap.size m rfl b4 ?_) | (refine store_R rfl (.tmp 2) (.tmp 47) rfl w.heap.size m rfl rfl t4 ?_;intro V2 b5 t5 o5))
 obtain ⟨mw,g5⟩:=HX.out V2 o5
 refine bodyPost_ret (resRee (b:=w.heap.size) (m:=m) rfl rfl b5) rfl ?_
 exact ⟨m,rfl,HM.out.1,mw,HM.out.2.2,g5⟩
theorem rdc_bad1 (d:ByteArray) (w:World) (h8:8≤d.size) (hs:d.size≤65535) (he:saidE d=0) (r1:errM (seM (headB d))≠0):Calls Tryz.prog 14 #[.string d] w (RRj 11 w):=by
 obtain ⟨l0,l1,l2⟩:=said_le he
 have eZ:saidZ d=sz2 d:=by unfold saidZ;rw [if_pos he]
 have h14:sz1 d=4∧¬ sz2 d < 8∧¬ (d.size:Int) < sz2 d:=by
  unfold saidE at he
  split at he
  ·cases he
  ·split at he
   ·cases he
   ·next q =>
    split at he
    ·cases he
    ·next q2=>exact ⟨Decidable.byContradiction fun q3=>q (.inl q3),fun q3=>q (.inr q3),q2⟩
 obtain ⟨h1,h2,h3⟩:=h14
 obtain ⟨W1,hW1⟩:∃ W1,rx w ms0=W1:=⟨_,rfl⟩
 have hG:Below w.heap.size w W1:=by rw [← hW1];go_grown
 have hT:W1.there w.heap.size 0 26:=hW1 ▸ there_new w (msC ms0) 42
 have z1:w.heap.size < W1.heap.size:=by rw [← hW1];simp
 have HW1:Hid (w.alloc (.cells #[.int .i64 0,.int .i64 0,.int .i64 0,.bool false,.int .i64 0,.int .i64 0,.slice none 0 0,.slice none 0 0,.slice none 0 0,.bool false,.int .u64 0,.int .u64 0,.int .i64 0,.int .i64 0,.int .i64 0,.int .i64 0,.slice none 0 0,.int .i64 0,.int .i64 0,.int .i64 0,.int .i64 0,.int .i64 0,.int .i64 0,.bool false,.slice none 0 0,.string ⟨#[]⟩] 42)=W1):=hW1
 have h8' : ¬ ((d.size:Int) < 8):=by omega
 have hix:=idx0 d (by omega)
 have HN:Hid (Calls Tryz.prog 24 #[.string d,.int .i64 2,.int .i64 2] W1 fun e w'=>e=.returned (.int .i64 (sz2 d))∧w'.there w.heap.size 0 26∧Below w.heap.size w w'∧w.heap.size < w'.heap.size):=(show Calls _ _ _ _ _ from by
  rw [sz2_num d h8]
  exact (r8num d 2 2 W1 (by omega) (by omega) (by omega)).mono fun _ w' ⟨h1,h2⟩=>⟨h1,there_block hT (h2.block _ z1),btr hG h2 (Nat.le_refl _),Nat.lt_of_lt_of_le z1 h2.size⟩)
 obtain ⟨b0,b1⟩:=sz1_lt d
 obtain ⟨c0,c1⟩:=sz2_lt d
 have k1:(sz1 d != 4)=false:=by simp [h1]
 have hsl:∀ w,(Instr.slice 9 (.string d) none (some (.int .i64 (sz2 d))) none).run Tryz.prog w=.ok (.string (headB d)) w:=fun w=>by
  have:=slice_h d (sz2 d) (by omega) (by omega) w
  unfold headB
  rwa [eZ]
 have hz8:8≤(headB d).size:=by unfold headB;rw [ByteArray.size_extract,eZ];omega
 have hzz:=headB_size d he
 have HR:Hid (∀ w1,Below w.heap.size w w1→Calls Tryz.prog 25 #[.string (headB d)] w1 fun e w'=>∃ m:Ms,e=.returned (msV m)∧Hid (m.msg=seM (headB d)∧(∀ V,Keeps w1.heap.size w' V→MW V m)∧MU m)∧Below w1.heap.size w1 w'):=(show ∀ w1,_ from fun w1 g=>(seems_any (headB d) w1 hz8 hzz).mono fun _ _ ⟨m,h1,h2,h3,h4,h5⟩=>⟨m,h1,(show _∧_ from ⟨h2,h3,h4⟩),h5⟩)
 have HE:Hid (∀ (m:Ms) w1,m.msg=seM (headB d)→MW w1 m→MU m→Calls Tryz.prog 11 #[msV m] w1 fun e w'=>e=.returned (.tuple #[.string (encM (seM (headB d))),.int .i64 (errM (seM (headB d)))])∧Below w1.heap.size w1 w'):=(show ∀ m w1,_ from fun m w1 h1 h2 h3=>h1 ▸ rencode_M m w1 h2 h3)
 clear hW1 hG hT z1 he l0 l1 l2 eZ h1 hz8 hzz hs
 generalize errM (seM (headB d))=XE at *
 generalize encM (seM (headB d))=EN at *
 generalize seM (headB d)=R at *
 generalize headB d=D at *
 generalize sz1 d=Z1 at *
 generalize sz2 d=Z2 at *
 have k2:(XE != 0)=true:=by simpa using r1
 clear r1
 go_enter Tryz.func14,Tryz.ntmps14
 go_wp2_with fail
 rw [HW1.out]
 refine HN.out.mono ?_
 rintro r w1 ⟨rfl,t1,g1,s1⟩
 go_wp2_with fail
 refine (HR.out _ g1).mono ?_
 rintro r w2 ⟨m,rfl,HM,g2⟩
 have t2:=there_block t1 (g2.block w.heap.size s1)
 have G2:Below w.heap.size w w2:=btr g1 g2 (Nat.le_refl _)
 have s2:w.heap.size < w2.heap.size:=Nat.lt_of_lt_of_le s1 g2.size
 have hY:(w2.alloc (.cells #[.int .i64 0,.int .i64 0,.int .i64 0,.bool false,.int .i64 0,.int .i64 0,.slice none 0 0,.slice none 0 0,.slice none 0 0,.bool false,.int .u64 0,.int .u64 0,.int .i64 0,.int .i64 0,.int .i64 0,.int .i64 0,.slice none 0 0,.int .i64 0,.int .i64 0,.int .i64 0,.int .i64 0,.int .i64 0,.int .i64 0,.bool false,.slice none 0 0,.string ⟨#[]⟩] 42)).there w2.heap.size 0 26:=there_new w2 (msC ms0) 42
 have HV:Hid (∀ V,Only w2.heap.size (w2.alloc (.cells #[.int .i64 0,.int .i64 0,.int .i64 0,.bool false,.int .i64 0,.int .i64 0,.slice none 0 0,.slice none 0 0,.slice none 0 0,.bool false,.int .u64 0,.int .u64 0,.int .i64 0,.int .i64 0,.int .i64 0,.int .i64 0,.slice none 0 0,.int .i64 0,.int .i64 0,.int .i64 0,.int .i64 0,.int .i64 0,.int .i64 0,.bool false,.slice none 0 0,.string ⟨#[]⟩] 42)) V→V.there w.heap.size 0 26∧Below w2.heap.size w2 V∧w2.heap.size < V.heap.size):=(show ∀ V,_ from fun V o=>by
  have gA:Below w2.heap.size w2 (w2.alloc (.cells #[.int .i64 0,.int .i64 0,.int .i64 0,.bool false,.int .i64 0,.int .i64 0,.slice none 0 0,.slice none 0 0,.slice none 0 0,.bool false,.int .u64 0,.int .u64 0,.int .i64 0,.int .i64 0,.int .i64 0,.int .i64 0,.slice none 0 0,.int .i64 0,.int .i64 0,.int .i64 0,.int .i64 0,.int .i64 0,.int .i64 0,.bool false,.slice none 0 0,.string ⟨#[]⟩] 42)):=by go_grown
  have gV:=o.belowK (Nat.le_refl _) gA
  exact ⟨there_block t2 (gV.block _ s2),gV,by rw [o.size];simp⟩)
 clear g2 t1 g1
 go_wp2_with (first | (refine store_R rfl (.tmp 6) (.tmp 31) rfl w2.heap.size m rfl rfl hY ?_;intro V bV tV oV) | (refine load_Rg rfl (.tmp 6) rfl w2.heap.size m rfl bV ?_))
 obtain ⟨t3,g3,s3⟩:=HV.out V oV
 have G3:Below w.heap.size w V:=btr G2 g3 (Nat.le_refl _)
 refine (HE.out m V HM.out.1 (HM.out.2.1 _ ⟨g3.size,fun g _ hg=>g3.block g hg⟩) HM.out.2.2).mono ?_
 rintro r w4 ⟨rfl,g4⟩
 have b4:=bV.block (g4.block w2.heap.size s3)
 have t4:=there_block t3 (g4.block w.heap.size (by omega))
 have G4:Below w.heap.size w w4:=btr G3 g4 (Nat.le_refl _)
 have HX:Hid (∀ V,Only w.heap.size w4 V→MW V m∧Below w.heap.size w V):=(show ∀ V',_ from fun V' o=>⟨HM.out.2.1 _ ⟨by rw [o.size];exact Nat.le_trans g3.size g4.size,fun g h1 h2=>(o.block g (by omega)).trans ((g4.block g (by omega)).trans (g3.block g h2))⟩,o.belowK (Nat.le_refl _) G4⟩)
 clear bV tV oV t3 g3 HV hY t2
 go_wp2_with (refine store_R rfl (.tmp 2) (.tmp 46) rfl w.heap.size ms0 rfl rfl t4 ?_;intro V2 b5 t5 o5)
 obtain ⟨mw,g5⟩:=HX.out V2 o5
 refine bodyPost_ret (resRee (b:=w.heap.size) (m:=ms0) rfl rfl b5) rfl ?_
 exact ⟨ms0,rfl,rfl,ms0_w _,mu0 0 0,g5⟩
theorem rdc_bad2 (d:ByteArray) (w:World) (h8:8≤d.size) (hs:d.size≤65535) (he:saidE d=0) (r1:errM (seM (headB d))=0) (r2:encM (seM (headB d))≠headB d):Calls Tryz.prog 14 #[.string d] w (RRj 11 w):=by
 obtain ⟨l0,l1,l2⟩:=said_le he
 have eZ:saidZ d=sz2 d:=by unfold saidZ;rw [if_pos he]
 have h14:sz1 d=4∧¬ sz2 d < 8∧¬ (d.size:Int) < sz2 d:=by
  unfold saidE at he
  split at he
  ·cases he
  ·split at he
   ·cases he
   ·next q =>
    split at he
    ·cases he
    ·next q2=>exact ⟨Decidable.byContradiction fun q3=>q (.inl q3),fun q3=>q (.inr q3),q2⟩
 obtain ⟨h1,h2,h3⟩:=h14
 obtain ⟨W1,hW1⟩:∃ W1,rx w ms0=W1:=⟨_,rfl⟩
 have hG:Below w.heap.size w W1:=by rw [← hW1];go_grown
 have hT:W1.there w.heap.size 0 26:=hW1 ▸ there_new w (msC ms0) 42
 have z1:w.heap.size < W1.heap.size:=by rw [← hW1];simp
 have HW1:Hid (w.alloc (.cells #[.int .i64 0,.int .i64 0,.int .i64 0,.bool false,.int .i64 0,.int .i64 0,.slice none 0 0,.slice none 0 0,.slice none 0 0,.bool false,.int .u64 0,.int .u64 0,.int .i64 0,.int .i64 0,.int .i64 0,.int .i64 0,.slice none 0 0,.int .i64 0,.int .i64 0,.int .i64 0,.int .i64 0,.int .i64 0,.int .i64 0,.bool false,.slice none 0 0,.string ⟨#[]⟩] 42)=W1):=hW1
 have h8' : ¬ ((d.size:Int) < 8):=by omega
 have hix:=idx0 d (by omega)
 have HN:Hid (Calls Tryz.prog 24 #[.string d,.int .i64 2,.int .i64 2] W1 fun e w'=>e=.returned (.int .i64 (sz2 d))∧w'.there w.heap.size 0 26∧Below w.heap.size w w'∧w.heap.size < w'.heap.size):=(show Calls _ _ _ _ _ from by
  rw [sz2_num d h8]
  exact (r8num d 2 2 W1 (by omega) (by omega) (by omega)).mono fun _ w' ⟨h1,h2⟩=>⟨h1,there_block hT (h2.block _ z1),btr hG h2 (Nat.le_refl _),Nat.lt_of_lt_of_le z1 h2.size⟩)
 obtain ⟨b0,b1⟩:=sz1_lt d
 obtain ⟨c0,c1⟩:=sz2_lt d
 have k1:(sz1 d != 4)=false:=by simp [h1]
 have hsl:∀ w,(Instr.slice 9 (.string d) none (some (.int .i64 (sz2 d))) none).run Tryz.prog w=.ok (.string (headB d)) w:=fun w=>by
  have:=slice_h d (sz2 d) (by omega) (by omega) w
  unfold headB
  rwa [eZ]
 have hz8:8≤(headB d).size:=by unfold headB;rw [ByteArray.size_extract,eZ];omega
 have hzz:=headB_size d he
 have HR:Hid (∀ w1,Below w.heap.size w w1→Calls Tryz.prog 25 #[.string (headB d)] w1 fun e w'=>∃ m:Ms,e=.returned (msV m)∧Hid (m.msg=seM (headB d)∧(∀ V,Keeps w1.heap.size w' V→MW V m)∧MU m)∧Below w1.heap.size w1 w'):=(show ∀ w1,_ from fun w1 g=>(seems_any (headB d) w1 hz8 hzz).mono fun _ _ ⟨m,h1,h2,h3,h4,h5⟩=>⟨m,h1,(show _∧_ from ⟨h2,h3,h4⟩),h5⟩)
 have HE:Hid (∀ (m:Ms) w1,m.msg=seM (headB d)→MW w1 m→MU m→Calls Tryz.prog 11 #[msV m] w1 fun e w'=>e=.returned (.tuple #[.string (encM (seM (headB d))),.int .i64 (errM (seM (headB d)))])∧Below w1.heap.size w1 w'):=(show ∀ m w1,_ from fun m w1 h1 h2 h3=>h1 ▸ rencode_M m w1 h2 h3)
 clear hW1 hG hT z1 he l0 l1 l2 eZ h1 hz8 hzz hs
 generalize errM (seM (headB d))=XE at *
 generalize encM (seM (headB d))=EN at *
 generalize seM (headB d)=R at *
 generalize headB d=D at *
 generalize sz1 d=Z1 at *
 generalize sz2 d=Z2 at *
 subst r1
 have k2:(EN.toList == D.toList)=false:=str_ne' r2
 have k3:(EN.toList != D.toList)=true:=by rw [bne,k2];rfl
 clear r2
 go_enter Tryz.func14,Tryz.ntmps14
 go_wp2_with fail
 rw [HW1.out]
 refine HN.out.mono ?_
 rintro r w1 ⟨rfl,t1,g1,s1⟩
 go_wp2_with fail
 refine (HR.out _ g1).mono ?_
 rintro r w2 ⟨m,rfl,HM,g2⟩
 have t2:=there_block t1 (g2.block w.heap.size s1)
 have G2:Below w.heap.size w w2:=btr g1 g2 (Nat.le_refl _)
 have s2:w.heap.size < w2.heap.size:=Nat.lt_of_lt_of_le s1 g2.size
 have hY:(w2.alloc (.cells #[.int .i64 0,.int .i64 0,.int .i64 0,.bool false,.int .i64 0,.int .i64 0,.slice none 0 0,.slice none 0 0,.slice none 0 0,.bool false,.int .u64 0,.int .u64 0,.int .i64 0,.int .i64 0,.int .i64 0,.int .i64 0,.slice none 0 0,.int .i64 0,.int .i64 0,.int .i64 0,.int .i64 0,.int .i64 0,.int .i64 0,.bool false,.slice none 0 0,.string ⟨#[]⟩] 42)).there w2.heap.size 0 26:=there_new w2 (msC ms0) 42
 have HV:Hid (∀ V,Only w2.heap.size (w2.alloc (.cells #[.int .i64 0,.int .i64 0,.int .i64 0,.bool false,.int .i64 0,.int .i64 0,.slice none 0 0,.slice none 0 0,.slice none 0 0,.bool false,.int .u64 0,.int .u64 0,.int .i64 0,.int .i64 0,.int .i64 0,.int .i64 0,.slice none 0 0,.int .i64 0,.int .i64 0,.int .i64 0,.int .i64 0,.int .i64 0,.int .i64 0,.bool false,.slice none 0 0,.string ⟨#[]⟩] 42)) V→V.there w.heap.size 0 26∧Below w2.heap.size w2 V∧w2.heap.size < V.heap.size):=(show ∀ V,_ from fun V o=>by
  have gA:Below w2.heap.size w2 (w2.alloc (.cells #[.int .i64 0,.int .i64 0,.int .i64 0,.bool false,.int .i64 0,.int .i64 0,.slice none 0 0,.slice none 0 0,.slice none 0 0,.bool false,.int .u64 0,.int .u64 0,.int .i64 0,.int .i64 0,.int .i64 0,.int .i64 0,.slice none 0 0,.int .i64 0,.int .i64 0,.int .i64 0,.int .i64 0,.int .i64 0,.int .i64 0,.bool false,.slice none 0 0,.string ⟨#[]⟩] 42)):=by go_grown
  have gV:=o.belowK (Nat.le_refl _) gA
  exact ⟨there_block t2 (gV.block _ s2),gV,by rw [o.size];simp⟩)
 clear g2 t1 g1
 go_wp2_with (first | (refine store_R rfl (.tmp 6) (.tmp 31) rfl w2.heap.size m rfl rfl hY ?_;intro V bV tV oV) | (refine load_Rg rfl (.tmp 6) rfl w2.heap.size m rfl bV ?_))
 obtain ⟨t3,g3,s3⟩:=HV.out V oV
 have G3:Below w.heap.size w V:=btr G2 g3 (Nat.le_refl _)
 refine (HE.out m V HM.out.1 (HM.out.2.1 _ ⟨g3.size,fun g _ hg=>g3.block g hg⟩) HM.out.2.2).mono ?_
 rintro r w4 ⟨rfl,g4⟩
 have b4:=bV.block (g4.block w2.heap.size s3)
 have t4:=there_block t3 (g4.block w.heap.size (by omega))
 have G4:Below w.heap.size w w4:=btr G3 g4 (Nat.le_refl _)
 have HX:Hid (∀ V,Only w.heap.size w4 V→MW V m∧Below w.heap.size w V):=(show ∀ V',_ from fun V' o=>⟨HM.out.2.1 _ ⟨by rw [o.size];exact Nat.le_trans g3.size g4.size,fun g h1 h2=>(o.block g (by omega)).trans ((g4.block g (by omega)).trans (g3.block g h2))⟩,o.belowK (Nat.le_refl _) G4⟩)
 clear bV tV oV t3 g3 HV hY t2
 go_wp2_with (refine store_R rfl (.tmp 2) (.tmp 46) rfl w.heap.size ms0 rfl rfl t4 ?_;intro V2 b5 t5 o5)
 obtain ⟨mw,g5⟩:=HX.out V2 o5
 refine bodyPost_ret (resRee (b:=w.heap.size) (m:=ms0) rfl rfl b5) rfl ?_
 exact ⟨ms0,rfl,rfl,ms0_w _,mu0 0 0,g5⟩
theorem both_see (d:ByteArray) (he:saidE d=0) (hx:decOk d=true→∃ m:Ms,m.msg=decM d∧MU m) (hy:∃ m:Ms,m.msg=seM (headB d)∧MU m):(errM (seM (headB d))=0∧encM (seM (headB d))=headB d↔decOk d=true)∧(decOk d=true→seM (headB d)=decM d):=by
 have rt:∀ M:Msg,errM M=0→rightM M=true:=fun M h=>by
  unfold errM at h
  split at h
  ·next q=>exact q
  ·cases h
 have hcut:d=headB d ++ d.extract (saidZ d).toNat d.size:=by
  have:=said_le he
  unfold headB
  exact cut_append d _ (by omega)
 have one:decOk d=true→seM (headB d)=decM d:=fun ho=>by
  obtain ⟨m,hm,hu⟩:=hx ho
  obtain ⟨q1,q2,q3⟩:=(decOk_iff d).1 ho
  have e:decM d=readM (headB d):=by unfold decM;rw [if_pos ho]
  rw [← e,← hm] at q2 q3
  have hr:=rt _ q2
  have ea:encM m.msg=allM m.msg:=by unfold encM;rw [if_pos hr]
  rw [← q3,ea,seems_all m hu hr,hm]
 refine ⟨⟨fun ⟨r1,r2⟩ => ?_,fun ho => ?_⟩,one⟩
 ·obtain ⟨m,hm,hu⟩:=hy
  rw [← hm] at r1 r2
  have hr:=rt _ r1
  have ea:encM m.msg=allM m.msg:=by unfold encM;rw [if_pos hr]
  rw [ea] at r2
  have:=(dec_all m hu hr (d.extract (saidZ d).toNat d.size)).1
  rw [r2,← hcut] at this
  exact this
 ·have e:=one ho
  obtain ⟨q1,q2,q3⟩:=(decOk_iff d).1 ho
  have e2:decM d=readM (headB d):=by unfold decM;rw [if_pos ho]
  rw [e,e2]
  exact ⟨q2,q3⟩
theorem rej_said {d:ByteArray} {k:Int} (h:saidE d=k) (hk:k≠0):decE d=k∧decZ d=0∧decM d=ms0.msg:=by
 have hn : ¬ decOk d=true:=fun ho=>hk (by rw [← h];exact ((decOk_iff d).1 ho).1)
 refine ⟨?_,?_,?_⟩
 ·unfold decE;rw [if_neg hn,if_neg (by rw [h];exact hk),h]
 ·unfold decZ;rw [if_neg hn]
 ·unfold decM;rw [if_neg hn]
theorem rdecode_M (d:ByteArray) (w:World) (hs:d.size≤65535) (hd:Ct w) :
    Calls Tryz.prog 14 #[.string d] w fun e w'=>∃ m:Ms,e=.returned (.tuple #[msV m,.int .i64 (decZ d),.int .i64 (decE d)])∧m.msg=decM d∧MW w' m∧MU m∧Below w.heap.size w w':=by
  by_cases h8:d.size < 8
  · obtain ⟨e1,e2,e3⟩:=rej_said (d:=d) (k:=10) (by unfold saidE;rw [if_pos h8]) (by decide)
    rw [e1,e2,e3]
    exact rdc_short d w h8
  · have h8':8≤d.size:=by omega
    by_cases h1:sz1 d=4
    · by_cases h2:sz2 d < 8
      · obtain ⟨e1,e2,e3⟩:=rej_said (d:=d) (k:=11) (by unfold saidE;rw [if_neg h8,if_pos (.inr h2)]) (by decide)
        rw [e1,e2,e3]
        exact rdc_low d w h8' (by omega) h1 h2
      · by_cases h3:(d.size:Int) < sz2 d
        · obtain ⟨e1,e2,e3⟩:=rej_said (d:=d) (k:=10) (by unfold saidE;rw [if_neg h8,if_neg (fun h=>h.elim (fun q=>q h1) h2),if_pos h3]) (by decide)
          rw [e1,e2,e3]
          exact rdc_end d w h8' (by omega) h1 h2 h3
        · have he:saidE d=0:=by unfold saidE;rw [if_neg h8,if_neg (fun h=>h.elim (fun q=>q h1) h2),if_neg h3]
          have hz8:8≤(headB d).size:=by
            have:=said_le he
            unfold headB;rw [ByteArray.size_extract];omega
          have hzz:=headB_size d he
          have hx:decOk d=true→∃ m:Ms,m.msg=decM d∧MU m:=fun _=>by
            obtain ⟨e,w',fr,⟨m,_,hm,_,hu,_⟩,_⟩:=decode_M d w (by unfold maxLen;omega) hd []
            exact ⟨m,hm,hu⟩
          have hy:∃ m:Ms,m.msg=seM (headB d)∧MU m:=by
            obtain ⟨e,w',fr,⟨m,_,hm,_,hu,_⟩,_⟩:=seems_any (headB d) w hz8 hzz []
            exact ⟨m,hm,hu⟩
          obtain ⟨b1,b2⟩:=both_see d he hx hy
          cases ho:decOk d with
          | true =>
            obtain ⟨r1,r2⟩:=b1.2 ho
            have e1:decE d=0:=(decE_zero d).2 ho
            have e2:decZ d=saidZ d:=by unfold decZ;rw [if_pos ho]
            rw [e1,e2,← b2 ho]
            exact rdc_good d w h8' hs he r1 r2
          | false =>
            have hn : ¬ decOk d=true:=by rw [ho];decide
            have e1:decE d=11:=by unfold decE;rw [if_neg hn,if_pos he]
            have e2:decZ d=0:=by unfold decZ;rw [if_neg hn]
            have e3:decM d=ms0.msg:=by unfold decM;rw [if_neg hn]
            rw [e1,e2,e3]
            by_cases r1:errM (seM (headB d))=0
            · by_cases r2:encM (seM (headB d))=headB d
              · exact absurd (b1.1 ⟨r1,r2⟩) hn
              · exact rdc_bad2 d w h8' hs he r1 r2
            · exact rdc_bad1 d w h8' hs he r1
    · obtain ⟨e1,e2,e3⟩:=rej_said (d:=d) (k:=11) (by unfold saidE;rw [if_neg h8,if_pos (.inl h1)]) (by decide)
      rw [e1,e2,e3]
      exact rdc_first d w h8' (by omega) h1
end Go.Proofs.YtlcbfdiohcbpbaaGreatDoor

import Derived.Test.YtlcbfdiohcbpbaaGreatDoorZR2
import Derived.Test.YtlcbfdiohcbpbaaGreatDoorZW2
namespace Go.Proofs.YtlcbfdiohcbpbaaGreatDoor
set_option maxRecDepth 20000
set_option maxHeartbeats 16000000
open Go.ChangeShapes Go.WideShapes Go.ChangeAt Go.RowKit
set_option linter.unusedVariables false
def headB (d:ByteArray):ByteArray:=d.extract 0 (saidZ d).toNat
theorem said_le {d:ByteArray} (h:saidE d=0):8≤saidZ d∧saidZ d≤d.size∧saidZ d≤65535:=by
 have e:saidZ d=sz2 d:=by unfold saidZ;rw [if_pos h]
 have:=sz2_lt d
 rw [e]
 unfold saidE at h
 split at h
 ·cases h
 ·split at h
  ·cases h
  ·split at h
   ·cases h
   ·omega
theorem headB_size (d:ByteArray) (h:saidE d=0):(headB d).size≤65535:=by
 have:=said_le h
 unfold headB
 rw [ByteArray.size_extract]
 omega
theorem dec_good (d:ByteArray) (w:World) (hs:d.size≤maxLen) (hd:Ct w) (he:saidE d=0) (h1:errM (readM (headB d))=0) (h2:encM (readM (headB d))=headB d) :
    Calls Tryz.prog 13 #[.string d] w fun e w'=>∃ m:Ms,e=.returned (.tuple #[msV m,.int .i64 (saidZ d),.int .i64 0])∧m.msg=readM (headB d)∧MW w' m∧MU m∧Below w.heap.size w w':=by
  obtain ⟨l0,l1,l2⟩:=said_le he
  have ho:=headB_size d he
  obtain ⟨W1,hW1⟩:∃ W1,mx w ms0=W1:=⟨_,rfl⟩
  have hG:Below w.heap.size w W1:=by rw [← hW1];go_grown
  have hT:W1.there w.heap.size 0 26:=hW1 ▸ there_new w (msC ms0) 33
  have z1:w.heap.size < W1.heap.size:=by rw [← hW1];simp
  have HC:Hid (Calls Tryz.prog 22 #[.string d] W1 fun e w'=>e=.returned (.tuple #[.int .i64 (saidZ d),.int .i64 0])∧w'.there w.heap.size 0 26∧Below w.heap.size w w'∧w.heap.size < w'.heap.size):=(show Calls _ _ _ _ _ from by
    have:=said_any d W1 hs
    rw [he] at this
    exact this.mono fun _ w' ⟨h1,h2⟩=>⟨h1,there_block hT (h2.block _ z1),btr hG h2 (Nat.le_refl _),Nat.lt_of_lt_of_le z1 h2.size⟩)
  have hsl:∀ w,(Instr.slice 9 (.string d) none (some (.int .i64 (saidZ d))) none).run Tryz.prog w=.ok (.string (headB d)) w:=fun w=>slice_h d _ (by omega) l1 w
  have HR:Hid (∀ w1,Below w.heap.size w w1→Calls Tryz.prog 23 #[.string (headB d)] w1 fun e w'=>∃ m:Ms,e=.returned (msV m)∧Hid (m.msg=readM (headB d)∧(∀ V,Keeps w1.heap.size w' V→MW V m)∧MU m)∧Below w1.heap.size w1 w'):=(show ∀ w1,_ from fun w1 g=>(readMsg_any (headB d) w1 ho (hd.below g)).mono fun _ _ ⟨m,h1,h2,h3,h4,h5⟩=>⟨m,h1,(show _∧_ from ⟨h2,h3,h4⟩),h5⟩)
  have HE:Hid (∀ (m:Ms) w1,m.msg=readM (headB d)→MW w1 m→MU m→Below w.heap.size w w1→Calls Tryz.prog 10 #[msV m] w1 fun e w'=>e=.returned (.tuple #[.string (encM (readM (headB d))),.int .i64 (errM (readM (headB d)))])∧Below w1.heap.size w1 w'):=(show ∀ m w1,_ from fun m w1 h1 h2 h3 g=>h1 ▸ encode_M m w1 h2 h3 (hd.below g))
  have HW1:Hid (w.alloc (.cells #[.int .i64 0,.int .i64 0,.int .i64 0,.bool false,.int .i64 0,.int .i64 0,.slice none 0 0,.slice none 0 0,.slice none 0 0,.bool false,.int .u64 0,.int .u64 0,.int .i64 0,.int .i64 0,.int .i64 0,.int .i64 0,.slice none 0 0,.int .i64 0,.int .i64 0,.int .i64 0,.int .i64 0,.int .i64 0,.int .i64 0,.bool false,.slice none 0 0,.string ⟨#[]⟩] 33)=W1):=hW1
  clear hs he hW1 hG hT z1 l0 l1 l2 ho
  generalize errM (readM (headB d))=X at *
  generalize encM (readM (headB d))=E at *
  generalize readM (headB d)=R at *
  generalize headB d=D at *
  generalize saidZ d=S at *
  subst h1 h2
  go_enter Tryz.func13,Tryz.ntmps13
  go_wp2_with fail
  rw [HW1.out]
  refine HC.out.mono ?_
  rintro r w1 ⟨rfl,t1,g1,s1⟩
  go_wp2_with fail
  refine (HR.out _ g1).mono ?_
  rintro r w2 ⟨m,rfl,HM,g2⟩
  have t2:=there_block t1 (g2.block w.heap.size s1)
  have G2:Below w.heap.size w w2:=btr g1 g2 (Nat.le_refl _)
  have s2:w.heap.size < w2.heap.size:=Nat.lt_of_lt_of_le s1 g2.size
  have hY:(w2.alloc (.cells #[.int .i64 0,.int .i64 0,.int .i64 0,.bool false,.int .i64 0,.int .i64 0,.slice none 0 0,.slice none 0 0,.slice none 0 0,.bool false,.int .u64 0,.int .u64 0,.int .i64 0,.int .i64 0,.int .i64 0,.int .i64 0,.slice none 0 0,.int .i64 0,.int .i64 0,.int .i64 0,.int .i64 0,.int .i64 0,.int .i64 0,.bool false,.slice none 0 0,.string ⟨#[]⟩] 33)).there w2.heap.size 0 26:=there_new w2 (msC ms0) 33
  have HV:Hid (∀ V,Only w2.heap.size (w2.alloc (.cells #[.int .i64 0,.int .i64 0,.int .i64 0,.bool false,.int .i64 0,.int .i64 0,.slice none 0 0,.slice none 0 0,.slice none 0 0,.bool false,.int .u64 0,.int .u64 0,.int .i64 0,.int .i64 0,.int .i64 0,.int .i64 0,.slice none 0 0,.int .i64 0,.int .i64 0,.int .i64 0,.int .i64 0,.int .i64 0,.int .i64 0,.bool false,.slice none 0 0,.string ⟨#[]⟩] 33)) V→V.there w.heap.size 0 26∧Below w2.heap.size w2 V∧w2.heap.size < V.heap.size):=(show ∀ V,_ from fun V o=>by
    have gA:Below w2.heap.size w2 (w2.alloc (.cells #[.int .i64 0,.int .i64 0,.int .i64 0,.bool false,.int .i64 0,.int .i64 0,.slice none 0 0,.slice none 0 0,.slice none 0 0,.bool false,.int .u64 0,.int .u64 0,.int .i64 0,.int .i64 0,.int .i64 0,.int .i64 0,.slice none 0 0,.int .i64 0,.int .i64 0,.int .i64 0,.int .i64 0,.int .i64 0,.int .i64 0,.bool false,.slice none 0 0,.string ⟨#[]⟩] 33)):=by go_grown
    have gV:=o.belowK (Nat.le_refl _) gA
    exact ⟨there_block t2 (gV.block _ s2),gV,by rw [o.size];simp⟩)
  clear g2 t1 g1
  go_wp2_with (first | (refine store_M rfl (.tmp 7) (.tmp 21) rfl w2.heap.size m rfl rfl hY ?_;intro V bV tV oV) | (refine load_Mg rfl (.tmp 7) rfl w2.heap.size m rfl bV ?_))
  obtain ⟨t3,g3,s3⟩:=HV.out V oV
  have G3:Below w.heap.size w V:=btr G2 g3 (Nat.le_refl _)
  refine (HE.out m V HM.out.1 (HM.out.2.1 _ ⟨g3.size,fun g _ hg=>g3.block g hg⟩) HM.out.2.2 G3).mono ?_
  rintro r w4 ⟨rfl,g4⟩
  have b4:=bV.block (g4.block w2.heap.size s3)
  have t4:=there_block t3 (g4.block w.heap.size (by omega))
  have G4:Below w.heap.size w w4:=btr G3 g4 (Nat.le_refl _)
  have HX:Hid (∀ V,Only w.heap.size w4 V→MW V m∧Below w.heap.size w V):=(show ∀ V',_ from fun V' o=>⟨HM.out.2.1 _ ⟨by rw [o.size];exact Nat.le_trans g3.size g4.size,fun g h1 h2=>(o.block g (by omega)).trans ((g4.block g (by omega)).trans (g3.block g h2))⟩,o.belowK (Nat.le_refl _) G4⟩)
  clear bV tV oV t3 g3 HV hY t2
  go_wp2_with (first | (refine load_Mg rfl (.tmp 7) rfl w2.heap.size m rfl b4 ?_) | (refine store_M rfl (.tmp 2) _ rfl w.heap.size m rfl rfl t4 ?_;intro V2 b5 t5 o5))
  obtain ⟨mw,g5⟩:=HX.out V2 o5
  refine bodyPost_ret (resMee (b:=w.heap.size) (m:=m) rfl rfl b5) rfl ?_
  exact ⟨m,rfl,HM.out.1,mw,HM.out.2.2,g5⟩
theorem dec_bad1 (d:ByteArray) (w:World) (hs:d.size≤maxLen) (hd:Ct w) (he:saidE d=0) (h1:errM (readM (headB d))≠0) :
    Calls Tryz.prog 13 #[.string d] w fun e w'=>∃ m:Ms,e=.returned (.tuple #[msV m,.int .i64 0,.int .i64 11])∧m.msg=ms0.msg∧MW w' m∧MU m∧Below w.heap.size w w':=by
  obtain ⟨l0,l1,l2⟩:=said_le he
  have ho:=headB_size d he
  obtain ⟨W1,hW1⟩:∃ W1,mx w ms0=W1:=⟨_,rfl⟩
  have hG:Below w.heap.size w W1:=by rw [← hW1];go_grown
  have hT:W1.there w.heap.size 0 26:=hW1 ▸ there_new w (msC ms0) 33
  have z1:w.heap.size < W1.heap.size:=by rw [← hW1];simp
  have HC:Hid (Calls Tryz.prog 22 #[.string d] W1 fun e w'=>e=.returned (.tuple #[.int .i64 (saidZ d),.int .i64 0])∧w'.there w.heap.size 0 26∧Below w.heap.size w w'∧w.heap.size < w'.heap.size):=(show Calls _ _ _ _ _ from by
    have:=said_any d W1 hs
    rw [he] at this
    exact this.mono fun _ w' ⟨h1,h2⟩=>⟨h1,there_block hT (h2.block _ z1),btr hG h2 (Nat.le_refl _),Nat.lt_of_lt_of_le z1 h2.size⟩)
  have hsl:∀ w,(Instr.slice 9 (.string d) none (some (.int .i64 (saidZ d))) none).run Tryz.prog w=.ok (.string (headB d)) w:=fun w=>slice_h d _ (by omega) l1 w
  have HR:Hid (∀ w1,Below w.heap.size w w1→Calls Tryz.prog 23 #[.string (headB d)] w1 fun e w'=>∃ m:Ms,e=.returned (msV m)∧Hid (m.msg=readM (headB d)∧(∀ V,Keeps w1.heap.size w' V→MW V m)∧MU m)∧Below w1.heap.size w1 w'):=(show ∀ w1,_ from fun w1 g=>(readMsg_any (headB d) w1 ho (hd.below g)).mono fun _ _ ⟨m,h1,h2,h3,h4,h5⟩=>⟨m,h1,(show _∧_ from ⟨h2,h3,h4⟩),h5⟩)
  have HE:Hid (∀ (m:Ms) w1,m.msg=readM (headB d)→MW w1 m→MU m→Below w.heap.size w w1→Calls Tryz.prog 10 #[msV m] w1 fun e w'=>e=.returned (.tuple #[.string (encM (readM (headB d))),.int .i64 (errM (readM (headB d)))])∧Below w1.heap.size w1 w'):=(show ∀ m w1,_ from fun m w1 h1 h2 h3 g=>h1 ▸ encode_M m w1 h2 h3 (hd.below g))
  have HW1:Hid (w.alloc (.cells #[.int .i64 0,.int .i64 0,.int .i64 0,.bool false,.int .i64 0,.int .i64 0,.slice none 0 0,.slice none 0 0,.slice none 0 0,.bool false,.int .u64 0,.int .u64 0,.int .i64 0,.int .i64 0,.int .i64 0,.int .i64 0,.slice none 0 0,.int .i64 0,.int .i64 0,.int .i64 0,.int .i64 0,.int .i64 0,.int .i64 0,.bool false,.slice none 0 0,.string ⟨#[]⟩] 33)=W1):=hW1
  clear hs he hW1 hG hT z1 l0 l1 l2 ho
  generalize errM (readM (headB d))=X at *
  generalize encM (readM (headB d))=E at *
  generalize readM (headB d)=R at *
  generalize headB d=D at *
  generalize saidZ d=S at *
  have k1:(X != 0)=true:=by simpa using h1
  clear h1
  go_enter Tryz.func13,Tryz.ntmps13
  go_wp2_with fail
  rw [HW1.out]
  refine HC.out.mono ?_
  rintro r w1 ⟨rfl,t1,g1,s1⟩
  go_wp2_with fail
  refine (HR.out _ g1).mono ?_
  rintro r w2 ⟨m,rfl,HM,g2⟩
  have t2:=there_block t1 (g2.block w.heap.size s1)
  have G2:Below w.heap.size w w2:=btr g1 g2 (Nat.le_refl _)
  have s2:w.heap.size < w2.heap.size:=Nat.lt_of_lt_of_le s1 g2.size
  have hY:(w2.alloc (.cells #[.int .i64 0,.int .i64 0,.int .i64 0,.bool false,.int .i64 0,.int .i64 0,.slice none 0 0,.slice none 0 0,.slice none 0 0,.bool false,.int .u64 0,.int .u64 0,.int .i64 0,.int .i64 0,.int .i64 0,.int .i64 0,.slice none 0 0,.int .i64 0,.int .i64 0,.int .i64 0,.int .i64 0,.int .i64 0,.int .i64 0,.bool false,.slice none 0 0,.string ⟨#[]⟩] 33)).there w2.heap.size 0 26:=there_new w2 (msC ms0) 33
  have HV:Hid (∀ V,Only w2.heap.size (w2.alloc (.cells #[.int .i64 0,.int .i64 0,.int .i64 0,.bool false,.int .i64 0,.int .i64 0,.slice none 0 0,.slice none 0 0,.slice none 0 0,.bool false,.int .u64 0,.int .u64 0,.int .i64 0,.int .i64 0,.int .i64 0,.int .i64 0,.slice none 0 0,.int .i64 0,.int .i64 0,.int .i64 0,.int .i64 0,.int .i64 0,.int .i64 0,.bool false,.slice none 0 0,.string ⟨#[]⟩] 33)) V→V.there w.heap.size 0 26∧Below w2.heap.size w2 V∧w2.heap.size < V.heap.size):=(show ∀ V,_ from fun V o=>by
    have gA:Below w2.heap.size w2 (w2.alloc (.cells #[.int .i64 0,.int .i64 0,.int .i64 0,.bool false,.int .i64 0,.int .i64 0,.slice none 0 0,.slice none 0 0,.slice none 0 0,.bool false,.int .u64 0,.int .u64 0,.int .i64 0,.int .i64 0,.int .i64 0,.int .i64 0,.slice none 0 0,.int .i64 0,.int .i64 0,.int .i64 0,.int .i64 0,.int .i64 0,.int .i64 0,.bool false,.slice none 0 0,.string ⟨#[]⟩] 33)):=by go_grown
    have gV:=o.belowK (Nat.le_refl _) gA
    exact ⟨there_block t2 (gV.block _ s2),gV,by rw [o.size];simp⟩)
  clear g2 t1 g1
  go_wp2_with (first | (refine store_M rfl (.tmp 7) (.tmp 21) rfl w2.heap.size m rfl rfl hY ?_;intro V bV tV oV) | (refine load_Mg rfl (.tmp 7) rfl w2.heap.size m rfl bV ?_))
  obtain ⟨t3,g3,s3⟩:=HV.out V oV
  have G3:Below w.heap.size w V:=btr G2 g3 (Nat.le_refl _)
  refine (HE.out m V HM.out.1 (HM.out.2.1 _ ⟨g3.size,fun g _ hg=>g3.block g hg⟩) HM.out.2.2 G3).mono ?_
  rintro r w4 ⟨rfl,g4⟩
  have b4:=bV.block (g4.block w2.heap.size s3)
  have t4:=there_block t3 (g4.block w.heap.size (by omega))
  have G4:Below w.heap.size w w4:=btr G3 g4 (Nat.le_refl _)
  have HX:Hid (∀ V,Only w.heap.size w4 V→MW V m∧Below w.heap.size w V):=(show ∀ V',_ from fun V' o=>⟨HM.out.2.1 _ ⟨by rw [o.size];exact Nat.le_trans g3.size g4.size,fun g h1 h2=>(o.block g (by omega)).trans ((g4.block g (by omega)).trans (g3.block g h2))⟩,o.belowK (Nat.le_refl _) G4⟩)
  clear bV tV oV t3 g3 HV hY t2
  go_wp2_with (first | (refine load_Mg rfl (.tmp 7) rfl w2.heap.size m rfl b4 ?_) | (refine store_M rfl (.tmp 2) _ rfl w.heap.size ms0 rfl rfl t4 ?_;intro V2 b5 t5 o5))
  obtain ⟨mw,g5⟩:=HX.out V2 o5
  refine bodyPost_ret (resMee (b:=w.heap.size) (m:=ms0) rfl rfl b5) rfl ?_
  exact ⟨ms0,rfl,rfl,ms0_w _,mu0 0 0,g5⟩
theorem dec_bad2 (d:ByteArray) (w:World) (hs:d.size≤maxLen) (hd:Ct w) (he:saidE d=0) (h1:errM (readM (headB d))=0) (h2:encM (readM (headB d))≠headB d) :
    Calls Tryz.prog 13 #[.string d] w fun e w'=>∃ m:Ms,e=.returned (.tuple #[msV m,.int .i64 0,.int .i64 11])∧m.msg=ms0.msg∧MW w' m∧MU m∧Below w.heap.size w w':=by
  obtain ⟨l0,l1,l2⟩:=said_le he
  have ho:=headB_size d he
  obtain ⟨W1,hW1⟩:∃ W1,mx w ms0=W1:=⟨_,rfl⟩
  have hG:Below w.heap.size w W1:=by rw [← hW1];go_grown
  have hT:W1.there w.heap.size 0 26:=hW1 ▸ there_new w (msC ms0) 33
  have z1:w.heap.size < W1.heap.size:=by rw [← hW1];simp
  have HC:Hid (Calls Tryz.prog 22 #[.string d] W1 fun e w'=>e=.returned (.tuple #[.int .i64 (saidZ d),.int .i64 0])∧w'.there w.heap.size 0 26∧Below w.heap.size w w'∧w.heap.size < w'.heap.size):=(show Calls _ _ _ _ _ from by
    have:=said_any d W1 hs
    rw [he] at this
    exact this.mono fun _ w' ⟨h1,h2⟩=>⟨h1,there_block hT (h2.block _ z1),btr hG h2 (Nat.le_refl _),Nat.lt_of_lt_of_le z1 h2.size⟩)
  have hsl:∀ w,(Instr.slice 9 (.string d) none (some (.int .i64 (saidZ d))) none).run Tryz.prog w=.ok (.string (headB d)) w:=fun w=>slice_h d _ (by omega) l1 w
  have HR:Hid (∀ w1,Below w.heap.size w w1→Calls Tryz.prog 23 #[.string (headB d)] w1 fun e w'=>∃ m:Ms,e=.returned (msV m)∧Hid (m.msg=readM (headB d)∧(∀ V,Keeps w1.heap.size w' V→MW V m)∧MU m)∧Below w1.heap.size w1 w'):=(show ∀ w1,_ from fun w1 g=>(readMsg_any (headB d) w1 ho (hd.below g)).mono fun _ _ ⟨m,h1,h2,h3,h4,h5⟩=>⟨m,h1,(show _∧_ from ⟨h2,h3,h4⟩),h5⟩)
  have HE:Hid (∀ (m:Ms) w1,m.msg=readM (headB d)→MW w1 m→MU m→Below w.heap.size w w1→Calls Tryz.prog 10 #[msV m] w1 fun e w'=>e=.returned (.tuple #[.string (encM (readM (headB d))),.int .i64 (errM (readM (headB d)))])∧Below w1.heap.size w1 w'):=(show ∀ m w1,_ from fun m w1 h1 h2 h3 g=>h1 ▸ encode_M m w1 h2 h3 (hd.below g))
  have HW1:Hid (w.alloc (.cells #[.int .i64 0,.int .i64 0,.int .i64 0,.bool false,.int .i64 0,.int .i64 0,.slice none 0 0,.slice none 0 0,.slice none 0 0,.bool false,.int .u64 0,.int .u64 0,.int .i64 0,.int .i64 0,.int .i64 0,.int .i64 0,.slice none 0 0,.int .i64 0,.int .i64 0,.int .i64 0,.int .i64 0,.int .i64 0,.int .i64 0,.bool false,.slice none 0 0,.string ⟨#[]⟩] 33)=W1):=hW1
  clear hs he hW1 hG hT z1 l0 l1 l2 ho
  generalize errM (readM (headB d))=X at *
  generalize encM (readM (headB d))=E at *
  generalize readM (headB d)=R at *
  generalize headB d=D at *
  generalize saidZ d=S at *
  subst h1
  have k1:=str_ne h2
  clear h2
  go_enter Tryz.func13,Tryz.ntmps13
  go_wp2_with fail
  rw [HW1.out]
  refine HC.out.mono ?_
  rintro r w1 ⟨rfl,t1,g1,s1⟩
  go_wp2_with fail
  refine (HR.out _ g1).mono ?_
  rintro r w2 ⟨m,rfl,HM,g2⟩
  have t2:=there_block t1 (g2.block w.heap.size s1)
  have G2:Below w.heap.size w w2:=btr g1 g2 (Nat.le_refl _)
  have s2:w.heap.size < w2.heap.size:=Nat.lt_of_lt_of_le s1 g2.size
  have hY:(w2.alloc (.cells #[.int .i64 0,.int .i64 0,.int .i64 0,.bool false,.int .i64 0,.int .i64 0,.slice none 0 0,.slice none 0 0,.slice none 0 0,.bool false,.int .u64 0,.int .u64 0,.int .i64 0,.int .i64 0,.int .i64 0,.int .i64 0,.slice none 0 0,.int .i64 0,.int .i64 0,.int .i64 0,.int .i64 0,.int .i64 0,.int .i64 0,.bool false,.slice none 0 0,.string ⟨#[]⟩] 33)).there w2.heap.size 0 26:=there_new w2 (msC ms0) 33
  have HV:Hid (∀ V,Only w2.heap.size (w2.alloc (.cells #[.int .i64 0,.int .i64 0,.int .i64 0,.bool false,.int .i64 0,.int .i64 0,.slice none 0 0,.slice none 0 0,.slice none 0 0,.bool false,.int .u64 0,.int .u64 0,.int .i64 0,.int .i64 0,.int .i64 0,.int .i64 0,.slice none 0 0,.int .i64 0,.int .i64 0,.int .i64 0,.int .i64 0,.int .i64 0,.int .i64 0,.bool false,.slice none 0 0,.string ⟨#[]⟩] 33)) V→V.there w.heap.size 0 26∧Below w2.heap.size w2 V∧w2.heap.size < V.heap.size):=(show ∀ V,_ from fun V o=>by
    have gA:Below w2.heap.size w2 (w2.alloc (.cells #[.int .i64 0,.int .i64 0,.int .i64 0,.bool false,.int .i64 0,.int .i64 0,.slice none 0 0,.slice none 0 0,.slice none 0 0,.bool false,.int .u64 0,.int .u64 0,.int .i64 0,.int .i64 0,.int .i64 0,.int .i64 0,.slice none 0 0,.int .i64 0,.int .i64 0,.int .i64 0,.int .i64 0,.int .i64 0,.int .i64 0,.bool false,.slice none 0 0,.string ⟨#[]⟩] 33)):=by go_grown
    have gV:=o.belowK (Nat.le_refl _) gA
    exact ⟨there_block t2 (gV.block _ s2),gV,by rw [o.size];simp⟩)
  clear g2 t1 g1
  go_wp2_with (first | (refine store_M rfl (.tmp 7) (.tmp 21) rfl w2.heap.size m rfl rfl hY ?_;intro V bV tV oV) | (refine load_Mg rfl (.tmp 7) rfl w2.heap.size m rfl bV ?_))
  obtain ⟨t3,g3,s3⟩:=HV.out V oV
  have G3:Below w.heap.size w V:=btr G2 g3 (Nat.le_refl _)
  refine (HE.out m V HM.out.1 (HM.out.2.1 _ ⟨g3.size,fun g _ hg=>g3.block g hg⟩) HM.out.2.2 G3).mono ?_
  rintro r w4 ⟨rfl,g4⟩
  have b4:=bV.block (g4.block w2.heap.size s3)
  have t4:=there_block t3 (g4.block w.heap.size (by omega))
  have G4:Below w.heap.size w w4:=btr G3 g4 (Nat.le_refl _)
  have HX:Hid (∀ V,Only w.heap.size w4 V→MW V m∧Below w.heap.size w V):=(show ∀ V',_ from fun V' o=>⟨HM.out.2.1 _ ⟨by rw [o.size];exact Nat.le_trans g3.size g4.size,fun g h1 h2=>(o.block g (by omega)).trans ((g4.block g (by omega)).trans (g3.block g h2))⟩,o.belowK (Nat.le_refl _) G4⟩)
  clear bV tV oV t3 g3 HV hY t2
  go_wp2_with (first | (refine load_Mg rfl (.tmp 7) rfl w2.heap.size m rfl b4 ?_) | (refine store_M rfl (.tmp 2) _ rfl w.heap.size ms0 rfl rfl t4 ?_;intro V2 b5 t5 o5))
  obtain ⟨mw,g5⟩:=HX.out V2 o5
  refine bodyPost_ret (resMee (b:=w.heap.size) (m:=ms0) rfl rfl b5) rfl ?_
  exact ⟨ms0,rfl,rfl,ms0_w _,mu0 0 0,g5⟩
theorem jump1_ap (x t:ByteArray) (h:x.size=1):(⟨x ++ t,0⟩:RS).jump 1=⟨t,0⟩:=jump_ap x t 1 h
theorem jump2_ap (x t:ByteArray) (h:x.size=2):(⟨x ++ t,0⟩:RS).jump 2=⟨t,0⟩:=jump_ap x t 2 h
theorem jump4_ap (x t:ByteArray) (h:x.size=4):(⟨x ++ t,0⟩:RS).jump 4=⟨t,0⟩:=jump_ap x t 4 h
theorem jump6_ap (x t:ByteArray) (h:x.size=6):(⟨x ++ t,0⟩:RS).jump 6=⟨t,0⟩:=jump_ap x t 6 h
theorem jump8_ap (x t:ByteArray) (h:x.size=8):(⟨x ++ t,0⟩:RS).jump 8=⟨t,0⟩:=jump_ap x t 8 h
theorem jump12_ap (x t:ByteArray) (h:x.size=12):(⟨x ++ t,0⟩:RS).jump 12=⟨t,0⟩:=jump_ap x t 12 h
theorem jump16_ap (x t:ByteArray) (h:x.size=16):(⟨x ++ t,0⟩:RS).jump 16=⟨t,0⟩:=jump_ap x t 16 h
theorem jump32_ap (x t:ByteArray) (h:x.size=32):(⟨x ++ t,0⟩:RS).jump 32=⟨t,0⟩:=jump_ap x t 32 h
theorem all_ap (t:ByteArray):(⟨t,0⟩:RS).all=t:=bytes_all t
theorem bytes_ap (x t:ByteArray):(⟨x ++ t,0⟩:RS).bytes (x.size:Int)=x:=by
 unfold RS.bytes takeV
 have h:(0:Int)=0∧decide (0≤(x.size:Int))=true∧(x.size:Int)≤((x ++ t).size:Int):=⟨rfl,by simp,by rw [ByteArray.size_append];omega⟩
 rw [if_pos h,Int.toNat_natCast,extract_left]
theorem jumpX_ap (x t:ByteArray):(⟨x ++ t,0⟩:RS).jump (x.size:Int)=⟨t,0⟩:=jump_ap x t x.size rfl
theorem all_eq (m:Msg):allM m=pb 4 1 ++ (pb m.kind 1 ++ (pb (8 + ((bodyM m).size:Int)) 2 ++ (pb m.xid 4 ++ bodyM m))):=by
 unfold allM;simp only [ap_assoc]
theorem all_size (m:Msg):((allM m).size:Int)=8 + ((bodyM m).size:Int):=by
 unfold allM
 simp only [ByteArray.size_append,pb_size]
 omega
theorem hd_all {m:Msg} (x0:0≤m.xid) (x1:m.xid≤4294967295) (k0:0≤m.kind) (k1:m.kind≤29):hdK (allM m)=m.kind∧hdX (allM m)=m.xid∧hdR (allM m)=⟨bodyM m,0⟩:=by
 have j1:(⟨allM m,0⟩:RS).jump 1=⟨pb m.kind 1 ++ (pb (8 + ((bodyM m).size:Int)) 2 ++ (pb m.xid 4 ++ bodyM m)),0⟩:=by rw [all_eq];exact jump1_ap _ _ (pb_size _ _)
 unfold hdK hdX hdR
 rw [j1,skip1_ap,jump2_ap _ _ (pb_size _ _),num1_ap _ _ k0 (by omega),num4_ap _ _ x0 (by omega),skip4_ap]
 exact ⟨rfl,rfl,rfl⟩
theorem acts_enc {l:List A} (h:okA l=true):actsV (encodeS l)=l:=by
 have h0:encodeE l=0:=by simpa [okA] using h
 unfold actsV
 rw [dec_enc l h0 (fun a ha=>(aws_of h0 a ha).v0)]
theorem ms_fine {x:En} (u:EU x) (hr:rightX x.sp=0):Fine x.sp:=by
 have o:=right_ok u hr
 obtain ⟨r1,r2⟩:=rightX_lists hr
 have hk:bits .andNot .u64 x.mt x.mm=0:=by
  unfold rightX En.sp at hr
  simp only at hr
  split at hr
  ·cases hr
  ·split at hr
   ·next h'=>exact absurd hr h'
   ·split at hr
    ·next h'=>exact absurd hr h'
    ·split at hr
     ·cases hr
     ·split at hr
      ·cases hr
      ·next h3=>simpa using h3
 refine ⟨o,r1,r2,fun a ha=>(aws_of r1 a ha).v0,fun a ha=>(aws_of r2 a ha).v0,fun hm => ?_⟩
 have hm':x.mm=0:=hm
 have e:=(not_iff x.mt x.mm u.t0 u.t1).1 hk
 have:=le_of_and x.mt x.mm u.k0 u.k1 e
 have h0:=u.t0
 show x.mt=0
 omega
theorem wat_back {n:Int} (h0:0≤n) (h1:n≤65535):wat' (wat n)=n∧0≤wat n∧wat n < 4294967296:=by
 unfold wat' wat
 by_cases h:n=0
 ·rw [if_pos h,if_pos rfl];omega
 ·rw [if_neg h,if_neg (by omega)];omega
theorem bk_trip {b:B3} (h:bkB b=true) (T:ByteArray):bkOfR ⟨bkS b ++ T,0⟩=b∧bkRest ⟨bkS b ++ T,0⟩=⟨T,0⟩:=by
 unfold bkB at h
 simp only [Bool.and_eq_true,inB_iff,decide_eq_true_eq] at h
 obtain ⟨⟨⟨⟨h1,h2⟩,h3,h4⟩,h5⟩,h6⟩:=h
 obtain ⟨a1,a2,a3⟩:=wat_back h1 h2
 have hz:=encS_le b.2.2
 have e:bkS b ++ T=pb (16 + ((encodeS b.2.2).size:Int)) 2 ++ (pb b.2.1 2 ++ (pb (wat b.1) 4 ++ ((ff4 ++ gap4) ++ (encodeS b.2.2 ++ T)))):=by
  unfold bkS;simp only [ap_assoc]
 have n0:(⟨bkS b ++ T,0⟩:RS).num 2=16 + ((encodeS b.2.2).size:Int):=by rw [e];exact num2_ap _ _ (by omega) (by omega)
 have s0:(⟨bkS b ++ T,0⟩:RS).skip 2=⟨pb b.2.1 2 ++ (pb (wat b.1) 4 ++ ((ff4 ++ gap4) ++ (encodeS b.2.2 ++ T))),0⟩:=by rw [e];exact skip2_ap _ _
 have r:bkR ⟨bkS b ++ T,0⟩=⟨encodeS b.2.2 ++ T,0⟩:=by
  unfold bkR
  rw [s0,skip2_ap,skip4_ap,jump8_ap _ _ rfl]
 have en:(16:Int) + ((encodeS b.2.2).size:Int) - 16=((encodeS b.2.2).size:Int):=by omega
 unfold bkOfR bkRest
 rw [r,n0,s0,skip2_ap,num2_ap _ _ h3 h4,num4_ap _ _ a2 a3,a1,en,bytes_ap,jumpX_ap,acts_enc h6]
 exact ⟨rfl,rfl⟩
theorem bks_trip:∀ l:List B3,(∀ x ∈ l,bkB x=true)→bksR (bksS l).size ⟨bksS l,0⟩=l
  | [],_=>rfl
  | b :: l,h=>by
    obtain ⟨t1,t2⟩:=bk_trip (h b (by simp)) (bksS l)
    have hp:0 < (bkS b ++ bksS l).size:=by rw [ByteArray.size_append,bkS_size];omega
    have:=bksR_step (r:=⟨bkS b ++ bksS l,0⟩) (fun h=>absurd rfl h) hp
    rw [t1,t2] at this
    show bksR (bkS b ++ bksS l).size ⟨bkS b ++ bksS l,0⟩=b :: l
    rw [this,bks_trip l (fun x hx=>h x (by simp [hx]))]
theorem msg_ext {a b:Msg} (h1:a.kind=b.kind) (h2:a.xid=b.xid) (h3:a.cmd=b.cmd) (h4:a.chk=b.chk) (h5:a.pri=b.pri) (h6:a.ts=b.ts) (h7:a.sp=b.sp) (h8:a.gid=b.gid) (h9:a.gkd=b.gkd) (h10:a.gb=b.gb)
    (h11:a.mid=b.mid) (h12:a.mra=b.mra) (h13:a.mbu=b.mbu) (h14:a.typ=b.typ) (h15:a.cod=b.cod) (h16:a.prt=b.prt) (h17:a.live=b.live) (h18:a.la=b.la) (h19:a.dat=b.dat):a=b:=by
  cases a;cases b;simp_all
structure Bare (m:Msg):Prop where
 cmd:m.kind≠14→m.kind≠15→m.kind≠29→m.cmd=0
 chk:m.kind≠14→m.chk=false
 pri:m.kind≠14→m.pri=0
 ts:m.kind≠14→m.ts=[]
 sp:m.kind≠14→m.sp=sp0
 gid:m.kind≠15→m.gid=0
 gkd:m.kind≠15→m.gkd=0
 gb:m.kind≠15→m.gb=[]
 mid:m.kind≠29→m.mid=0
 mra:m.kind≠29→m.mra=0
 mbu:m.kind≠29→m.mbu=0
 typ:m.kind≠1→m.typ=0
 cod:m.kind≠1→m.cod=0
 prt:m.kind≠12→m.kind≠13→m.prt=0
 live:m.kind≠12→m.live=false
 la:m.kind≠13→m.la=[]
 dat:m.kind≠1→m.kind≠2→m.kind≠3→m.kind≠13→m.dat=⟨#[]⟩
theorem noSp_eq {s:Sp} (h:noSp s=true):s=sp0:=by
 unfold noSp at h
 cases s
 simp only [Bool.and_eq_true,beq_iff_eq,List.length_eq_zero_iff,Bool.not_eq_true'] at h
 obtain ⟨⟨⟨⟨⟨⟨⟨rfl,rfl⟩,rfl⟩,rfl⟩,rfl⟩,rfl⟩,rfl⟩,rfl⟩:=h
 rfl
theorem bare_of {m:Msg} (h:bareB m=true):Bare m:=by
 unfold bareB at h
 simp only [Bool.and_eq_true,Bool.or_eq_true,beq_iff_eq,noEnt,noGrp,noMet,List.length_eq_zero_iff,Bool.not_eq_true'] at h
 obtain ⟨⟨⟨⟨⟨⟨⟨⟨⟨⟨a1,a2⟩,a3⟩,a4⟩,a5⟩,a6⟩,a7⟩,a8⟩,a9⟩,a10⟩,a11⟩:=h
 refine ⟨fun x y z => ?_,fun x => ?_,fun x => ?_,fun x => ?_,fun x => ?_,fun x => ?_,fun x => ?_,fun x => ?_,fun x => ?_,fun x => ?_,fun x => ?_,fun x => ?_,fun x => ?_,fun x y => ?_,fun x => ?_,fun x => ?_,fun x y z u => ?_⟩
 ·simpa [x,y,z] using a1
 ·simpa [x] using a2
 ·exact (a3.resolve_left x).1.1
 ·exact (a3.resolve_left x).1.2
 ·exact noSp_eq (a3.resolve_left x).2
 ·exact (a4.resolve_left x).1.1
 ·exact (a4.resolve_left x).1.2
 ·exact (a4.resolve_left x).2
 ·exact (a5.resolve_left x).1.1
 ·exact (a5.resolve_left x).1.2
 ·exact (a5.resolve_left x).2
 ·exact a6.resolve_left x
 ·exact a7.resolve_left x
 ·simpa [x,y] using a8
 ·exact a9.resolve_left x
 ·exact a10.resolve_left x
 ·have:m.dat.size=0:=by simpa [x,y,z,u] using a11
  exact empty_of this
theorem read_all (m:Ms) (u:MU m) (hr:rightM m.msg=true):readM (allM m.msg)=m.msg:=by
 obtain ⟨x0,x1,ho,hb⟩:=right_parts hr
 obtain ⟨k0,k1⟩:=own_kind ho
 obtain ⟨hK,hX,hR⟩:=hd_all x0 x1 k0 k1
 have B:=bare_of hb
 have ut:=u.t
 have ue:=u.u
 have es:m.msg.sp=m.en.sp:=rfl
 have et:m.msg.ts=m.ts:=rfl
 rw [← et] at ut
 unfold readM
 rw [hK,hX,hR]
 clear hK hX hR hr hb u k0 k1 et
 have ef:∀ s:Sp,s=m.en.sp→rightX s=0→decX s.tab (encX s)=(s,0):=fun s hs h=>by subst hs;exact decX_enc (ms_fine ue h) h
 have ef':=ef m.msg.sp es
 clear ef es ue
 generalize m.msg=M at *
 clear m
 rcases kinds M.kind with k | k | k | k | k | k | k | k | k | k | k | k
 case inr.inr.inr.inr.inr.inr.inr.inr.inr.inr.inr =>
  exfalso
  obtain ⟨k0,k1,k2,k3,k12,k13,k14,k15,k20,k21,k29⟩:=k
  simp only [beq_eq_false_iff_ne] at k0 k1 k2 k3 k12 k13 k14 k15 k20 k21 k29
  simp [ownB, *] at ho
 ·clear ef'
  simp only [k]
  exact msg_ext k.symm rfl (B.cmd (by omega) (by omega) (by omega)).symm (B.chk (by omega)).symm (B.pri (by omega)).symm (B.ts (by omega)).symm (B.sp (by omega)).symm (B.gid (by omega)).symm (B.gkd (by omega)).symm (B.gb (by omega)).symm (B.mid (by omega)).symm (B.mra (by omega)).symm (B.mbu (by omega)).symm (B.typ (by omega)).symm (B.cod (by omega)).symm (B.prt (by omega) (by omega)).symm (B.live (by omega)).symm (B.la (by omega)).symm (B.dat (by omega) (by omega) (by omega) (by omega)).symm
 ·have eb:bodyM M=pb M.typ 2 ++ (pb M.cod 2 ++ M.dat):=by unfold bodyM;rw [if_pos k];simp only [ap_assoc]
  unfold ownB at ho
  simp only [k] at ho
  simp [inB_iff] at ho
  rw [eb,if_pos k]
  rw [skip2_ap,skip2_ap,num2_ap _ _ ho.1.1.1 ho.1.1.2,num2_ap _ _ ho.1.2.1 ho.1.2.2,all_ap]
  exact msg_ext rfl rfl (B.cmd (by omega) (by omega) (by omega)).symm (B.chk (by omega)).symm (B.pri (by omega)).symm (B.ts (by omega)).symm (B.sp (by omega)).symm (B.gid (by omega)).symm (B.gkd (by omega)).symm (B.gb (by omega)).symm (B.mid (by omega)).symm (B.mra (by omega)).symm (B.mbu (by omega)).symm rfl rfl (B.prt (by omega) (by omega)).symm (B.live (by omega)).symm (B.la (by omega)).symm rfl
 ·have eb:bodyM M=M.dat:=by unfold bodyM;rw [if_neg (by omega),if_pos (.inl k)]
  rw [eb,if_neg (by omega),if_pos (.inl k),all_ap]
  exact msg_ext rfl rfl (B.cmd (by omega) (by omega) (by omega)).symm (B.chk (by omega)).symm (B.pri (by omega)).symm (B.ts (by omega)).symm (B.sp (by omega)).symm (B.gid (by omega)).symm (B.gkd (by omega)).symm (B.gb (by omega)).symm (B.mid (by omega)).symm (B.mra (by omega)).symm (B.mbu (by omega)).symm (B.typ (by omega)).symm (B.cod (by omega)).symm (B.prt (by omega) (by omega)).symm (B.live (by omega)).symm (B.la (by omega)).symm rfl
 ·have eb:bodyM M=M.dat:=by unfold bodyM;rw [if_neg (by omega),if_pos (.inr k)]
  rw [eb,if_neg (by omega),if_pos (.inr k),all_ap]
  exact msg_ext rfl rfl (B.cmd (by omega) (by omega) (by omega)).symm (B.chk (by omega)).symm (B.pri (by omega)).symm (B.ts (by omega)).symm (B.sp (by omega)).symm (B.gid (by omega)).symm (B.gkd (by omega)).symm (B.gb (by omega)).symm (B.mid (by omega)).symm (B.mra (by omega)).symm (B.mbu (by omega)).symm (B.typ (by omega)).symm (B.cod (by omega)).symm (B.prt (by omega) (by omega)).symm (B.live (by omega)).symm (B.la (by omega)).symm rfl
 ·have eb:bodyM M=(pb 2 1 ++ gap3 ++ gap4) ++ (pb M.prt 4 ++ (zeros 32 ++ (pb (dwn M.live) 4 ++ zeros 24))):=by
   unfold bodyM;rw [if_neg (by omega),if_neg (by omega),if_pos k];unfold portS;simp only [ap_assoc]
  unfold ownB at ho
  simp only [k] at ho
  simp [inB_iff] at ho
  have el:(dwn M.live == 0)=M.live:=by cases M.live <;> rfl
  have ed:0≤dwn M.live∧dwn M.live < 4294967296:=by cases M.live <;> decide
  rw [eb,if_neg (by omega),if_neg (by omega),if_pos k]
  rw [jump8_ap _ _ rfl,num4_ap _ _ (by omega) (by omega),skip4_ap,jump32_ap _ _ (zeros_size 32),num4_ap _ _ ed.1 ed.2,el]
  exact msg_ext rfl rfl (B.cmd (by omega) (by omega) (by omega)).symm (B.chk (by omega)).symm (B.pri (by omega)).symm (B.ts (by omega)).symm (B.sp (by omega)).symm (B.gid (by omega)).symm (B.gkd (by omega)).symm (B.gb (by omega)).symm (B.mid (by omega)).symm (B.mra (by omega)).symm (B.mbu (by omega)).symm (B.typ (by omega)).symm (B.cod (by omega)).symm rfl rfl (B.la (by omega)).symm (B.dat (by omega) (by omega) (by omega) (by omega)).symm
 ·have eb:bodyM M=ff4 ++ (pb M.prt 4 ++ (pb ((encodeS M.la).size:Int) 2 ++ ((gap4 ++ gap2) ++ (encodeS M.la ++ M.dat)))):=by
   unfold bodyM;rw [if_neg (by omega),if_neg (by omega),if_neg (by omega),if_pos k];unfold packS;simp only [ap_assoc]
  unfold ownB at ho
  simp only [k] at ho
  simp [inB_iff] at ho
  obtain ⟨⟨⟨p0,p1⟩,p2⟩,p3⟩:=ho
  have hz:=encS_le M.la
  rw [eb,if_neg (by omega),if_neg (by omega),if_neg (by omega),if_pos k]
  unfold pkA pkD pkR pkN
  rw [jump4_ap _ _ rfl,num4_ap _ _ p0 (by omega),skip4_ap,num2_ap _ _ (by omega) (by omega),skip2_ap,jump6_ap _ _ rfl,bytes_ap,jumpX_ap,all_ap,acts_enc p2]
  exact msg_ext rfl rfl (B.cmd (by omega) (by omega) (by omega)).symm (B.chk (by omega)).symm (B.pri (by omega)).symm (B.ts (by omega)).symm (B.sp (by omega)).symm (B.gid (by omega)).symm (B.gkd (by omega)).symm (B.gb (by omega)).symm (B.mid (by omega)).symm (B.mra (by omega)).symm (B.mbu (by omega)).symm (B.typ (by omega)).symm (B.cod (by omega)).symm rfl (B.live (by omega)).symm rfl rfl
 ·have eb:bodyM M=zeros 16 ++ (pb M.sp.tab 1 ++ (pb M.cmd 1 ++ (gap4 ++ (pb M.pri 2 ++ (ff12 ++ (pb (flg M.chk) 2 ++ (gap2 ++ (Mt.encodeS M.ts ++ encodeX M.sp)))))))):=by
   unfold bodyM;rw [if_neg (by omega),if_neg (by omega),if_neg (by omega),if_neg (by omega),if_pos k];unfold flowS;simp only [ap_assoc]
  unfold ownB at ho
  simp only [k] at ho
  simp [inB_iff,entB] at ho
  obtain ⟨⟨c0,c1⟩,⟨⟨p0,p1⟩,r1⟩,r2⟩:=ho
  have ec:(flg M.chk == 2)=M.chk:=by cases M.chk <;> rfl
  have ed:0≤flg M.chk∧flg M.chk≤65535:=by cases M.chk <;> decide
  have ht:0≤M.sp.tab∧M.sp.tab < 8:=by
   have:tabB M.sp.tab=true:=by
    cases hb:tabB M.sp.tab with
    | true=>rfl
    | false=>unfold rightX at r2;rw [if_pos hb] at r2;cases r2
   simpa [tabB] using this
  have e1:Mt.encodeS M.ts=Mt.encS M.ts:=by unfold Mt.encodeS;rw [if_pos r1]
  have e2:encodeX M.sp=encX M.sp:=by unfold encodeX;rw [if_pos r2]
  rw [e1,e2] at eb
  obtain ⟨w1,w2,w3⟩:=Mt.trip M.ts r1 ut (encX M.sp)
  have ok:=(okF_iff _).2 w1
  have fT:flTs (Mt.encS M.ts ++ encX M.sp)=M.ts:=by unfold flTs;rw [if_pos ok,w2]
  have fN:flN (Mt.encS M.ts ++ encX M.sp)=(Mt.encS M.ts).size:=by unfold flN;rw [if_pos ok,w3]
  have r8:flR8 ⟨bodyM M,0⟩=⟨Mt.encS M.ts ++ encX M.sp,0⟩∧flT ⟨bodyM M,0⟩=M.sp.tab∧flC ⟨bodyM M,0⟩=M.cmd∧flP ⟨bodyM M,0⟩=M.pri∧flK ⟨bodyM M,0⟩=M.chk:=by
   unfold flR8 flT flC flP flK flR6 flR4
   rw [eb,jump16_ap _ _ (zeros_size 16),num1_ap _ _ ht.1 (by omega),skip1_ap,num1_ap _ _ c0 (by omega),skip1_ap,jump4_ap _ _ rfl,num2_ap _ _ p0 p1,skip2_ap,jump12_ap _ _ rfl,num2_ap _ _ ed.1 ed.2,skip2_ap,jump2_ap _ _ rfl,ec]
   exact ⟨rfl,rfl,rfl,rfl,rfl⟩
  obtain ⟨q1,q2,q3,q4,q5⟩:=r8
  have qL:flL ⟨bodyM M,0⟩=Mt.encS M.ts ++ encX M.sp:=by unfold flL;rw [q1,all_ap]
  rw [if_neg (by omega),if_neg (by omega),if_neg (by omega),if_neg (by omega),if_pos k,qL,fT,fN,q2,q3,q4,q5,Int.toNat_natCast,extract_right,ef' r2]
  exact msg_ext rfl rfl rfl rfl rfl rfl rfl (B.gid (by omega)).symm (B.gkd (by omega)).symm (B.gb (by omega)).symm (B.mid (by omega)).symm (B.mra (by omega)).symm (B.mbu (by omega)).symm (B.typ (by omega)).symm (B.cod (by omega)).symm (B.prt (by omega) (by omega)).symm (B.live (by omega)).symm (B.la (by omega)).symm (B.dat (by omega) (by omega) (by omega) (by omega)).symm
 ·have eb:bodyM M=pb M.cmd 2 ++ (pb (M.gkd - 1) 1 ++ (gap1 ++ (pb M.gid 4 ++ bksS M.gb))):=by
   unfold bodyM;rw [if_neg (by omega),if_neg (by omega),if_neg (by omega),if_neg (by omega),if_neg (by omega),if_pos k];unfold grpS;simp only [ap_assoc]
  unfold ownB at ho
  simp only [k] at ho
  simp [inB_iff] at ho
  obtain ⟨⟨c0,c1⟩,hg⟩:=ho
  obtain ⟨g1,g2,g3,g4,g5,g6⟩:=grB_few hg
  rw [if_neg (by omega),if_neg (by omega),if_neg (by omega),if_neg (by omega),if_neg (by omega),if_pos k]
  unfold gpI gpK gpB gpR
  rw [eb,skip2_ap,num2_ap _ _ c0 (by omega),num1_ap _ _ (by omega) (by omega),skip1_ap,jump1_ap _ _ rfl,num4_ap _ _ (by omega) (by omega),skip4_ap]
  show ({ msg0 M.kind M.xid with cmd:=M.cmd,gid:=M.gid,gkd:=M.gkd - 1 + 1,gb:=bksR (bksS M.gb).size ⟨bksS M.gb,0⟩ }:Msg)=M
  rw [bks_trip _ g6,Int.sub_add_cancel]
  exact msg_ext rfl rfl rfl (B.chk (by omega)).symm (B.pri (by omega)).symm (B.ts (by omega)).symm (B.sp (by omega)).symm rfl rfl rfl (B.mid (by omega)).symm (B.mra (by omega)).symm (B.mbu (by omega)).symm (B.typ (by omega)).symm (B.cod (by omega)).symm (B.prt (by omega) (by omega)).symm (B.live (by omega)).symm (B.la (by omega)).symm (B.dat (by omega) (by omega) (by omega) (by omega)).symm
 ·clear ef'
  simp only [k]
  exact msg_ext k.symm rfl (B.cmd (by omega) (by omega) (by omega)).symm (B.chk (by omega)).symm (B.pri (by omega)).symm (B.ts (by omega)).symm (B.sp (by omega)).symm (B.gid (by omega)).symm (B.gkd (by omega)).symm (B.gb (by omega)).symm (B.mid (by omega)).symm (B.mra (by omega)).symm (B.mbu (by omega)).symm (B.typ (by omega)).symm (B.cod (by omega)).symm (B.prt (by omega) (by omega)).symm (B.live (by omega)).symm (B.la (by omega)).symm (B.dat (by omega) (by omega) (by omega) (by omega)).symm
 ·clear ef'
  simp only [k]
  exact msg_ext k.symm rfl (B.cmd (by omega) (by omega) (by omega)).symm (B.chk (by omega)).symm (B.pri (by omega)).symm (B.ts (by omega)).symm (B.sp (by omega)).symm (B.gid (by omega)).symm (B.gkd (by omega)).symm (B.gb (by omega)).symm (B.mid (by omega)).symm (B.mra (by omega)).symm (B.mbu (by omega)).symm (B.typ (by omega)).symm (B.cod (by omega)).symm (B.prt (by omega) (by omega)).symm (B.live (by omega)).symm (B.la (by omega)).symm (B.dat (by omega) (by omega) (by omega) (by omega)).symm
 ·have eb:bodyM M=pb M.cmd 2 ++ (pb 5 2 ++ (pb M.mid 4 ++ (pb 65552 4 ++ (pb M.mra 4 ++ (pb M.mbu 4 ++ gap4))))):=by
   unfold bodyM;rw [if_neg (by omega),if_neg (by omega),if_neg (by omega),if_neg (by omega),if_neg (by omega),if_neg (by omega),if_pos k];unfold metS;simp only [ap_assoc]
  unfold ownB at ho
  simp only [k] at ho
  simp [inB_iff,meB] at ho
  obtain ⟨⟨c0,c1⟩,⟨⟨a0,a1⟩,b0,b1⟩,d0,d1⟩:=ho
  rw [if_neg (by omega),if_neg (by omega),if_neg (by omega),if_neg (by omega),if_neg (by omega),if_neg (by omega),if_pos k]
  unfold mtV mtR
  rw [eb,num2_ap _ _ c0 (by omega),skip2_ap,jump2_ap _ _ (pb_size _ _),num4_ap _ _ (by omega) (by omega),skip4_ap,jump4_ap _ _ (pb_size _ _),num4_ap _ _ b0 (by omega),skip4_ap,num4_ap _ _ d0 (by omega)]
  exact msg_ext rfl rfl rfl (B.chk (by omega)).symm (B.pri (by omega)).symm (B.ts (by omega)).symm (B.sp (by omega)).symm (B.gid (by omega)).symm (B.gkd (by omega)).symm (B.gb (by omega)).symm rfl rfl rfl (B.typ (by omega)).symm (B.cod (by omega)).symm (B.prt (by omega) (by omega)).symm (B.live (by omega)).symm (B.la (by omega)).symm (B.dat (by omega) (by omega) (by omega) (by omega)).symm
def decOk (d:ByteArray):Bool:=decide (saidE d=0) && decide (errM (readM (headB d))=0) && decide (encM (readM (headB d))=headB d)
def decE (d:ByteArray):Int:=if decOk d=true then 0 else if saidE d=0 then 11 else saidE d
def decZ (d:ByteArray):Int:=if decOk d=true then saidZ d else 0
def decM (d:ByteArray):Msg:=if decOk d=true then readM (headB d) else ms0.msg
theorem decOk_iff (d:ByteArray):decOk d=true↔saidE d=0∧errM (readM (headB d))=0∧encM (readM (headB d))=headB d:=by
 unfold decOk
 simp only [Bool.and_eq_true,decide_eq_true_eq,and_assoc]
theorem decE_zero (d:ByteArray):decE d=0↔decOk d=true:=by
 unfold decE
 split
 ·simp_all
 ·next h=>split <;> simp_all
theorem decode_M (d:ByteArray) (w:World) (hs:d.size≤maxLen) (hd:Ct w) :
    Calls Tryz.prog 13 #[.string d] w fun e w'=>∃ m:Ms,e=.returned (.tuple #[msV m,.int .i64 (decZ d),.int .i64 (decE d)])∧m.msg=decM d∧MW w' m∧MU m∧Below w.heap.size w w':=by
  cases ho:decOk d with
  | true =>
    obtain ⟨h1,h2,h3⟩:=(decOk_iff d).1 ho
    unfold decZ decE decM
    rw [if_pos ho,if_pos ho,if_pos ho]
    exact dec_good d w hs hd h1 h2 h3
  | false =>
    have hn : ¬ decOk d=true:=by rw [ho];decide
    unfold decZ decE decM
    rw [if_neg hn,if_neg hn,if_neg hn]
    by_cases h1:saidE d=0
    · rw [if_pos h1]
      by_cases h2:errM (readM (headB d))=0
      · by_cases h3:encM (readM (headB d))=headB d
        · exact absurd ((decOk_iff d).2 ⟨h1,h2,h3⟩) hn
        · exact dec_bad2 d w hs hd h1 h2 h3
      · exact dec_bad1 d w hs hd h1 h2
    · rw [if_neg h1]
      exact (dec_early d w hs h1).mono fun _ w' ⟨e,g⟩=>⟨ms0,e,rfl,ms0_w _,mu0 0 0,g⟩
theorem dec_all (m:Ms) (u:MU m) (hr:rightM m.msg=true) (t:ByteArray):decOk (allM m.msg ++ t)=true∧saidZ (allM m.msg ++ t)=(allM m.msg).size∧headB (allM m.msg ++ t)=allM m.msg:=by
 obtain ⟨x0,x1,ho,hb⟩:=right_parts hr
 obtain ⟨k0,k1⟩:=own_kind ho
 have hz:=body_le ho
 have hs:=all_size m.msg
 have e:allM m.msg ++ t=pb 4 1 ++ (pb m.msg.kind 1 ++ (pb (8 + ((bodyM m.msg).size:Int)) 2 ++ (pb m.msg.xid 4 ++ (bodyM m.msg ++ t)))):=by rw [all_eq];simp only [ap_assoc]
 have s1:sz1 (allM m.msg ++ t)=4:=by rw [e];exact num1_ap 4 _ (by omega) (by omega)
 have s2:sz2 (allM m.msg ++ t)=8 + ((bodyM m.msg).size:Int):=by
  unfold sz2
  rw [e,skip1_ap,skip1_ap,num2_ap _ _ (by omega) (by omega)]
 have sl:(allM m.msg ++ t).size=(allM m.msg).size + t.size:=ByteArray.size_append
 have hE:saidE (allM m.msg ++ t)=0:=by
  unfold saidE
  rw [if_neg (by omega),if_neg (by rw [s1,s2];omega),if_neg (by omega)]
 have hZ:saidZ (allM m.msg ++ t)=(allM m.msg).size:=by unfold saidZ;rw [if_pos hE];omega
 have hH:headB (allM m.msg ++ t)=allM m.msg:=by unfold headB;rw [hZ,Int.toNat_natCast,extract_left]
 refine ⟨(decOk_iff _).2 ⟨hE,?_,?_⟩,hZ,hH⟩
 ·rw [hH,read_all m u hr];unfold errM;rw [if_pos hr]
 ·rw [hH,read_all m u hr];unfold encM;rw [if_pos hr]
end Go.Proofs.YtlcbfdiohcbpbaaGreatDoor

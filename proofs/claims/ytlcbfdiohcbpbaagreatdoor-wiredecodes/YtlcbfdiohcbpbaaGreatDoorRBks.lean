import Derived.Test.YtlcbfdiohcbpbaaGreatDoorRNum
import Derived.Test.YtlcbfdiohcbpbaaGreatDoorZR1
import Derived.Test.YtlcbfdiohcbpbaaGreatDoorZD2
namespace Go.Proofs.YtlcbfdiohcbpbaaGreatDoor
set_option maxRecDepth 20000
set_option maxHeartbeats 16000000
open Go.ChangeShapes Go.WideShapes Go.ChangeAt Go.RowKit
set_option linter.unusedVariables false
set_option linter.unusedSimpArgs false
theorem BO.below {base:Nat} {w w':World} {v:Value} {l:List Bk} (h:BO base w v l) (g:Below w.heap.size w w'):BO base w' v l :=
 ⟨Mt.owns_below h.row g,fun x hx=>⟨(h.acts x hx).1.below g,(h.acts x hx).2⟩,h.nil⟩
def bkO (s:ByteArray):B3:=(wat' (numB s 4 4),numB s 2 2,actsV (s.extract 16 (numB s 0 2).toNat))
def bkOkB (s:ByteArray):Bool:=decide (16≤s.size) && decide (16≤numB s 0 2) && decide (numB s 0 2≤(s.size:Int))
def bksB:Nat→ByteArray→List B3
 | 0,_=>[]
 | f + 1,s=>if bkOkB s=true then bkO s :: bksB f (s.extract (numB s 0 2).toNat s.size) else []
theorem bksB_no {s:ByteArray} (h:bkOkB s=false):∀ f,bksB f s=[]
 | 0=>rfl
 | f + 1=>by unfold bksB;rw [h];rfl
theorem bkO_acts (s:ByteArray):(bkO s).2.2=actsV (s.extract 16 (numB s 0 2).toNat):=by unfold bkO;simp only
theorem bksB_aw:∀ (f:Nat) (s:ByteArray),∀ x ∈ bksB f s,AWs x.2.2
  | 0,_=>by simp [bksB]
  | f + 1,s=>by
    intro x hx
    by_cases h:bkOkB s=true
    · rw [bksB,if_pos h,List.mem_cons] at hx
      rcases hx with e | hx
      · have h2:x.2.2=actsV (s.extract 16 (numB s 0 2).toNat):=(congrArg (fun z:B3=>z.2.2) e).trans (bkO_acts s)
        rw [h2]
        exact acts_aw _
      · exact bksB_aw f _ x hx
    · rw [bksB,if_neg h] at hx
      cases hx
theorem rbks_any (s:ByteArray) (w:World) (hs:s.size≤100000) :
    Calls Tryz.prog 61 #[.string s] w fun e w'=>∃ a l cap,e=.returned (.slice a l.length cap)∧l.map Bk.b3=bksB 17 s∧BsF w.heap.size w' a l∧l.length≤17∧Below w.heap.size w w':=by
  have HN:Hid (∀ (q:ByteArray) w,q.size≤100000→Calls Tryz.prog 24 #[.string q,.int .i64 0,.int .i64 2] w fun e w'=>e=.returned (.int .i64 (numB q 0 2))∧Below w.heap.size w w'):=(show ∀ q w,_ from fun q w hq=>r8num q 0 2 w hq (by omega) (by omega))
  have HN2:Hid (∀ (q:ByteArray) w,q.size≤100000→Calls Tryz.prog 24 #[.string q,.int .i64 2,.int .i64 2] w fun e w'=>e=.returned (.int .i64 (numB q 2 2))∧Below w.heap.size w w'):=(show ∀ q w,_ from fun q w hq=>r8num q 2 2 w hq (by omega) (by omega))
  have HN4:Hid (∀ (q:ByteArray) w,q.size≤100000→Calls Tryz.prog 24 #[.string q,.int .i64 4,.int .i64 4] w fun e w'=>e=.returned (.int .i64 (numB q 4 4))∧Below w.heap.size w w'):=(show ∀ q w,_ from fun q w hq=>r8num q 4 4 w hq (by omega) (by omega))
  have HD:Hid (∀ (q:ByteArray) w,q.size≤100000→Calls Tryz.prog 58 #[.string q] w fun x w'=>∃ ad cap E,x=.returned (.tuple #[.slice ad (actsV q).length cap,.int .i64 E])∧Hid (TsF w.heap.size w' ad (actsV q))∧Below w.heap.size w w'):=(show ∀ q w,_ from fun q w hq=>(rdec_any q w (by unfold maxLen;omega)).mono fun _ _ ⟨ad,cap,E,h1,_,h2,h3⟩=>⟨ad,cap,E,h1,(show TsF _ _ _ _ from h2),h3⟩)
  obtain ⟨R,hR⟩:∃ R,bksB 17 s=R:=⟨_,rfl⟩
  rw [hR]
  obtain ⟨i0,hi,hz0,hz1,hz2⟩:=info_parts infoBk
  go_enter Tryz.func61,Tryz.ntmps61
  go_wp2_with fail
  go_loopw [0,3] (fun sv ov wr=>∃ (q:ByteArray) (l:List Bk),sv=.string q∧q.size≤100000∧Hid (l.map Bk.b3 ++ bksB (17 - l.length) q=R)∧l.length≤17∧BO w.heap.size wr ov l∧Below w.heap.size w wr) (fun sv _ _=>szOf sv)
  case atStart=>exact ⟨s,[],rfl,hs,(show _=_ from hR),by simp,⟨World.ownsRow_nil _ _ _ _,by simp,fun _=>rfl⟩,Below.refl _ _⟩
  case round =>
    obtain ⟨q,l,rfl,hq,HR,hl,hBO,hbel⟩:=hrel
    obtain ⟨a3,c3,hv⟩:=own_sl hBO.row
    subst hv
    have HF:Hid (bksB (17 - l.length) q=[]→∃ a l' cap,(Ending.returned (.slice a3 l.length c3)=.returned (.slice a l'.length cap))∧l'.map Bk.b3=R∧BsF w.heap.size wr a l'∧l'.length≤17∧Below w.heap.size w wr):=(show _→_ from fun h0=>by
      obtain ⟨a,cap,hv,hb⟩:=hBO.bsf
      simp only [Value.slice.injEq] at hv
      obtain ⟨rfl,_,rfl⟩:=hv
      have h1:=HR.out
      rw [h0,List.append_nil] at h1
      exact ⟨a3,l,c3,rfl,h1,hb,hl,hbel⟩)
    by_cases c1:16≤q.size
    · have c1':(q.size:Int) ≥ 16:=by omega
      by_cases c2:l.length < 17
      · have c2':(l.length:Int) < 17:=by omega
        have HNq:=HN.out q
        obtain ⟨n0,n1⟩:=numB_rng q 0 2 (by omega)
        by_cases c5:16≤numB q 0 2
        · have c5' : ¬ (numB q 0 2 < 16):=by omega
          by_cases c6:numB q 0 2≤(q.size:Int)
          · have c6' : ¬ (numB q 0 2 > (q.size:Int)):=by omega
            have hok:bkOkB q=true:=by unfold bkOkB;simp [c1,c5,c6]
            have HRn:Hid (l.map Bk.b3 ++ (bkO q :: bksB (17 - (l.length + 1)) (q.extract (numB q 0 2).toNat q.size))=R):=(show _=_ by
              have h1:=HR.out
              obtain ⟨f,hf⟩:∃ f,17 - l.length=f + 1:=⟨16 - l.length,by omega⟩
              rw [hf,bksB,if_pos hok] at h1
              rw [show 17 - (l.length + 1)=f by omega]
              exact h1)
            have hs1:=fun w=>slice_lh q 16 (numB q 0 2) (by omega) c5 c6 w
            have hs2:=fun w=>slice_l q (numB q 0 2) n0 c6 w
            have HZq:Hid ((q.extract (numB q 0 2).toNat q.size).size < q.size):=(show _ < _ by rw [ByteArray.size_extract];omega)
            have HZa:Hid ((q.extract 16 (numB q 0 2).toNat).size≤100000):=(show _≤_ by rw [ByteArray.size_extract];omega)
            have HO:Hid (bkO q=(wat' (numB q 4 4),numB q 2 2,actsV (q.extract 16 (numB q 0 2).toNat))):=(show _=_ from rfl)
            have HDq:Hid (∀ w,Calls Tryz.prog 58 #[.string (q.extract 16 (numB q 0 2).toNat)] w fun x w'=>∃ ad cap E,x=.returned (.tuple #[.slice ad (actsV (q.extract 16 (numB q 0 2).toNat)).length cap,.int .i64 E])∧Hid (TsF w.heap.size w' ad (actsV (q.extract 16 (numB q 0 2).toNat)))∧Below w.heap.size w w'):=(show ∀ w,_ from fun w=>HD.out _ w HZa.out)
            have HM2:Hid (∀ w,Calls Tryz.prog 24 #[.string q,.int .i64 2,.int .i64 2] w fun e w'=>e=.returned (.int .i64 (numB q 2 2))∧Below w.heap.size w w'):=(show ∀ w,_ from fun w=>HN2.out q w hq)
            have HM4:Hid (∀ w,Calls Tryz.prog 24 #[.string q,.int .i64 4,.int .i64 4] w fun e w'=>e=.returned (.int .i64 (numB q 4 4))∧Below w.heap.size w w'):=(show ∀ w,_ from fun w=>HN4.out q w hq)
            have HM0:Hid (∀ w,Calls Tryz.prog 24 #[.string q,.int .i64 0,.int .i64 2] w fun e w'=>e=.returned (.int .i64 (numB q 0 2))∧Below w.heap.size w w'):=(show ∀ w,_ from fun w=>HN.out q w hq)
            have hfew:=decV_few (q.extract 16 (numB q 0 2).toNat)
            have HFew:Hid ((actsV (q.extract 16 (numB q 0 2).toNat)).length≤1000):=hfew
            clear HNq HD HN HN2 HN4 HF hfew hok
            generalize actsV (q.extract 16 (numB q 0 2).toNat)=AL at *
            simp only [show ((16:Int)).toNat=16 from rfl] at hs1
            generalize q.extract 16 (numB q 0 2).toNat=QA at *
            generalize q.extract (numB q 0 2).toNat q.size=QN at *
            generalize numB q 0 2=NN at *
            generalize numB q 2 2=N2 at *
            generalize numB q 4 4=N4 at *
            by_cases hw4:N4=4294967295
            · have k4:(N4 == 4294967295)=true:=by simp [hw4]
              have HX:Hid (bkO q=(0,N2,AL)):=(show _=_ by rw [HO.out];unfold wat';rw [if_pos hw4])
              clear HO hw4
              go_wp2_with fail
              refine (HM0.out _).mono ?_
              rintro x w1 ⟨rfl,g1⟩
              have G1:=btr hbel g1 (Nat.le_refl _)
              have B1:=hBO.below g1
              clear g1 hBO hbel
              go_wp2_with fail
              refine (HDq.out _).mono ?_
              rintro x w2 ⟨ad,cap,E,rfl,HT,g2⟩
              have T2:TsF w.heap.size w2 ad AL:=HT.out.mono G1.size
              have G2:=btr G1 g2 (Nat.le_refl _)
              have B2:=B1.below g2
              have HT2:Hid (TsF w.heap.size w2 ad AL):=T2
              clear g2 B1 G1 HT T2
              go_wp2_with fail
              refine (HM2.out _).mono ?_
              rintro x w3 ⟨rfl,g3⟩
              have G3:=btr G2 g3 (Nat.le_refl _)
              have B3':=B2.below g3
              have HT3:Hid (TsF w.heap.size w3 ad AL):=(show TsF _ _ _ _ from HT2.out.below g3)
              clear g3 B2 G2 HT2
              go_wp2_with fail
              refine (HM4.out _).mono ?_
              rintro x w4 ⟨rfl,g4⟩
              have G4:=btr G3 g4 (Nat.le_refl _)
              have B4:=B3'.below g4
              have HT4:Hid (TsF w.heap.size w4 ad AL):=(show TsF _ _ _ _ from HT3.out.below g4)
              have HB4:Hid (BO w.heap.size w4 (.slice a3 l.length c3) l):=B4
              have own4:=B4.row
              have zl:l.length + 1≤17:=by omega
              clear g4 B3' G3 HT3 B4
              go_wp2_with (at_builtin;refine wpList_append_own _ rfl _ _ 27 rfl w.heap.size 53 i0 (.agg #[.int .i64 0,.int .i64 0,.slice none 0 0]) 3 40 Tryz.underlying27 hi hz0 hz1 hz2 rfl (by decide) _ l.length (flatB l) rfl (Mt.owns_below own4 (by go_grown)) _ 1 1 [.int .i64 0,.int .i64 N2,.slice ad AL.length cap] rfl rfl ?c1 ?c2 ?c3 ?c4 ?c5 ?_)
              case c1 =>
                intro j u hj
                match j,hj with
                | 0,hj=>simp at hj;subst hj;simp [Addr.add]
                | 1,hj=>simp at hj;subst hj;simp [Addr.add]
                | 2,hj=>simp at hj;subst hj;simp [Addr.add]
              case c2=>intro u hu;simp at hu;rcases hu with rfl | rfl | rfl <;> rfl
              case c3=>unfold maxLen;omega
              case c4=>omega
              case c5=>have:=G4.size;simp;omega
              · intro v' w6 hown' hgrow _
                have B6:BO w.heap.size w6 v' (l ++ [(⟨0,N2,ad,AL,cap⟩:Bk)]):=BO.snoc (HB4.out.below (by go_grown)) (HT4.out.below (by go_grown)) HFew.out hown' hgrow
                have R6:Below w.heap.size w w6:=(btr G4 (by go_grown) (Nat.le_refl _)).grown hgrow (by have:=G4.size;simp;omega) (fun q hq=>(HB4.out.row.lt q hq).1)
                have HB6:Hid (BO w.heap.size w6 v' (l ++ [(⟨0,N2,ad,AL,cap⟩:Bk)])):=B6
                have HE6:Hid ((l ++ [(⟨0,N2,ad,AL,cap⟩:Bk)]).map Bk.b3 ++ bksB (17 - (l ++ [(⟨0,N2,ad,AL,cap⟩:Bk)]).length) QN=R):=(show _=_ by
                  rw [List.map_append,List.length_append,List.length_singleton,List.append_assoc,← HRn.out,HX.out]
                  rfl)
                clear hown' hgrow own4 G4 B6 HB4 HT4
                go_wp2
                go_roundw
                case rel=>exact ⟨QN,l ++ [(⟨0,N2,ad,AL,cap⟩:Bk)],rfl,by have:=HZq.out;omega,HE6,by rw [List.length_append,List.length_singleton];omega,HB6.out,R6⟩
                case measure=>exact HZq.out
            · have k4:(N4 == 4294967295)=false:=by simp [hw4]
              have HX:Hid (bkO q=(N4,N2,AL)):=(show _=_ by rw [HO.out];unfold wat';rw [if_neg hw4])
              clear HO hw4
              go_wp2_with fail
              refine (HM0.out _).mono ?_
              rintro x w1 ⟨rfl,g1⟩
              have G1:=btr hbel g1 (Nat.le_refl _)
              have B1:=hBO.below g1
              clear g1 hBO hbel
              go_wp2_with fail
              refine (HDq.out _).mono ?_
              rintro x w2 ⟨ad,cap,E,rfl,HT,g2⟩
              have T2:TsF w.heap.size w2 ad AL:=HT.out.mono G1.size
              have G2:=btr G1 g2 (Nat.le_refl _)
              have B2:=B1.below g2
              have HT2:Hid (TsF w.heap.size w2 ad AL):=T2
              clear g2 B1 G1 HT T2
              go_wp2_with fail
              refine (HM2.out _).mono ?_
              rintro x w3 ⟨rfl,g3⟩
              have G3:=btr G2 g3 (Nat.le_refl _)
              have B3':=B2.below g3
              have HT3:Hid (TsF w.heap.size w3 ad AL):=(show TsF _ _ _ _ from HT2.out.below g3)
              clear g3 B2 G2 HT2
              go_wp2_with fail
              refine (HM4.out _).mono ?_
              rintro x w4 ⟨rfl,g4⟩
              have G4:=btr G3 g4 (Nat.le_refl _)
              have B4:=B3'.below g4
              have HT4:Hid (TsF w.heap.size w4 ad AL):=(show TsF _ _ _ _ from HT3.out.below g4)
              have HB4:Hid (BO w.heap.size w4 (.slice a3 l.length c3) l):=B4
              have own4:=B4.row
              have zl:l.length + 1≤17:=by omega
              clear g4 B3' G3 HT3 B4
              go_wp2_with (at_builtin;refine wpList_append_own _ rfl _ _ 27 rfl w.heap.size 53 i0 (.agg #[.int .i64 0,.int .i64 0,.slice none 0 0]) 3 40 Tryz.underlying27 hi hz0 hz1 hz2 rfl (by decide) _ l.length (flatB l) rfl (Mt.owns_below own4 (by go_grown)) _ 1 1 [.int .i64 N4,.int .i64 N2,.slice ad AL.length cap] rfl rfl ?c1 ?c2 ?c3 ?c4 ?c5 ?_)
              case c1 =>
                intro j u hj
                match j,hj with
                | 0,hj=>simp at hj;subst hj;simp [Addr.add]
                | 1,hj=>simp at hj;subst hj;simp [Addr.add]
                | 2,hj=>simp at hj;subst hj;simp [Addr.add]
              case c2=>intro u hu;simp at hu;rcases hu with rfl | rfl | rfl <;> rfl
              case c3=>unfold maxLen;omega
              case c4=>omega
              case c5=>have:=G4.size;simp;omega
              · intro v' w6 hown' hgrow _
                have B6:BO w.heap.size w6 v' (l ++ [(⟨N4,N2,ad,AL,cap⟩:Bk)]):=BO.snoc (HB4.out.below (by go_grown)) (HT4.out.below (by go_grown)) HFew.out hown' hgrow
                have R6:Below w.heap.size w w6:=(btr G4 (by go_grown) (Nat.le_refl _)).grown hgrow (by have:=G4.size;simp;omega) (fun q hq=>(HB4.out.row.lt q hq).1)
                have HB6:Hid (BO w.heap.size w6 v' (l ++ [(⟨N4,N2,ad,AL,cap⟩:Bk)])):=B6
                have HE6:Hid ((l ++ [(⟨N4,N2,ad,AL,cap⟩:Bk)]).map Bk.b3 ++ bksB (17 - (l ++ [(⟨N4,N2,ad,AL,cap⟩:Bk)]).length) QN=R):=(show _=_ by
                  rw [List.map_append,List.length_append,List.length_singleton,List.append_assoc,← HRn.out,HX.out]
                  rfl)
                clear hown' hgrow own4 G4 B6 HB4 HT4
                go_wp2
                go_roundw
                case rel=>exact ⟨QN,l ++ [(⟨N4,N2,ad,AL,cap⟩:Bk)],rfl,by have:=HZq.out;omega,HE6,by rw [List.length_append,List.length_singleton];omega,HB6.out,R6⟩
                case measure=>exact HZq.out
          · have c6':numB q 0 2 > (q.size:Int):=by omega
            have hno:bkOkB q=false:=by unfold bkOkB;simp [c6]
            have HFn:=HF.out (bksB_no hno _)
            have HM0:Hid (Calls Tryz.prog 24 #[.string q,.int .i64 0,.int .i64 2] wr fun e w'=>e=.returned (.int .i64 (numB q 0 2))∧Below wr.heap.size wr w'):=(show Calls _ _ _ _ _ from HN.out q wr hq)
            have HFF:Hid (∀ w',Below wr.heap.size wr w'→∃ a l' cap,(Ending.returned (.slice a3 l.length c3)=.returned (.slice a l'.length cap))∧l'.map Bk.b3=R∧BsF w.heap.size w' a l'∧l'.length≤17∧Below w.heap.size w w'):=(show ∀ w',_ from fun w' g=>by
              obtain ⟨a,l',cap,q1,q2,q3,q4,q5⟩:=HFn
              exact ⟨a,l',cap,q1,q2,q3.keep g.size (fun k _ hk=>g.block k hk),q4,btr q5 g (Nat.le_refl _)⟩)
            clear HFn HF HNq HD HN HN2 HN4 hno
            generalize numB q 0 2=NN at *
            go_wp2_with fail
            refine HM0.out.mono ?_
            rintro x w1 ⟨rfl,g1⟩
            go_wp2_with fail
            go_ret
            obtain ⟨a,l',cap,q1,q2,q3,q4,q5⟩:=HFF.out _ g1
            first | exact ⟨a,l',cap,q1,q2,q3,q4,q5⟩ | exact ⟨a,l',⟨cap,q1⟩,q2,q3,q4,q5⟩
        · have c5':numB q 0 2 < 16:=by omega
          have hno:bkOkB q=false:=by unfold bkOkB;simp [c5]
          have HFn:=HF.out (bksB_no hno _)
          have HM0:Hid (Calls Tryz.prog 24 #[.string q,.int .i64 0,.int .i64 2] wr fun e w'=>e=.returned (.int .i64 (numB q 0 2))∧Below wr.heap.size wr w'):=(show Calls _ _ _ _ _ from HN.out q wr hq)
          have HFF:Hid (∀ w',Below wr.heap.size wr w'→∃ a l' cap,(Ending.returned (.slice a3 l.length c3)=.returned (.slice a l'.length cap))∧l'.map Bk.b3=R∧BsF w.heap.size w' a l'∧l'.length≤17∧Below w.heap.size w w'):=(show ∀ w',_ from fun w' g=>by
            obtain ⟨a,l',cap,q1,q2,q3,q4,q5⟩:=HFn
            exact ⟨a,l',cap,q1,q2,q3.keep g.size (fun k _ hk=>g.block k hk),q4,btr q5 g (Nat.le_refl _)⟩)
          clear HFn HF HNq HD HN HN2 HN4 hno
          generalize numB q 0 2=NN at *
          go_wp2_with fail
          refine HM0.out.mono ?_
          rintro x w1 ⟨rfl,g1⟩
          go_wp2_with fail
          go_ret
          obtain ⟨a,l',cap,q1,q2,q3,q4,q5⟩:=HFF.out _ g1
          first | exact ⟨a,l',cap,q1,q2,q3,q4,q5⟩ | exact ⟨a,l',⟨cap,q1⟩,q2,q3,q4,q5⟩
      · have c2' : ¬ ((l.length:Int) < 17):=by omega
        have HFn:Hid (∃ a l' cap,(Ending.returned (.slice a3 l.length c3)=.returned (.slice a l'.length cap))∧l'.map Bk.b3=R∧BsF w.heap.size wr a l'∧l'.length≤17∧Below w.heap.size w wr):=HF.out (by rw [show 17 - l.length=0 by omega];rfl)
        clear HF HD HN HN2 HN4
        go_wp2_with fail
        go_ret
        obtain ⟨a,l',cap,q1,q2,q3,q4,q5⟩:=HFn.out
        first | exact ⟨a,l',cap,q1,q2,q3,q4,q5⟩ | exact ⟨a,l',⟨cap,q1⟩,q2,q3,q4,q5⟩
    · have c1' : ¬ ((q.size:Int) ≥ 16):=by omega
      have hno:bkOkB q=false:=by unfold bkOkB;simp [c1]
      have HFn:Hid (∃ a l' cap,(Ending.returned (.slice a3 l.length c3)=.returned (.slice a l'.length cap))∧l'.map Bk.b3=R∧BsF w.heap.size wr a l'∧l'.length≤17∧Below w.heap.size w wr):=HF.out (bksB_no hno _)
      clear HF HD HN HN2 HN4 hno
      go_wp2_with fail
      go_ret
      obtain ⟨a,l',cap,q1,q2,q3,q4,q5⟩:=HFn.out
      first | exact ⟨a,l',cap,q1,q2,q3,q4,q5⟩ | exact ⟨a,l',⟨cap,q1⟩,q2,q3,q4,q5⟩
end Go.Proofs.YtlcbfdiohcbpbaaGreatDoor

import Derived.Test.YtlcbfdiohcbpbaaGreatDoorRBase
import Derived.Test.YtlcbfdiohcbpbaaGreatDoorZW
namespace Go.Proofs.YtlcbfdiohcbpbaaGreatDoor
set_option maxHeartbeats 8000000
open Go.ChangeShapes Go.WideShapes Go.ChangeAt Go.RowKit
set_option linter.unusedVariables false
set_option linter.unusedSimpArgs false
theorem bkB_eq (b:B3):bkB b=(mostA b.2.2 8 && inB b.1 0 65535 && inB b.2.1 0 65535):=by
 unfold bkB mostA
 have:decide ((b.2.2.length:Int)≤8)=decide (b.2.2.length≤8):=by
  by_cases h:b.2.2.length≤8
  ·rw [decide_eq_true h,decide_eq_true (by omega)]
  ·rw [decide_eq_false h,decide_eq_false (by omega)]
 rw [this]
 cases inB b.1 0 65535 <;> cases inB b.2.1 0 65535 <;> cases okA b.2.2 <;> cases decide (b.2.2.length≤8) <;> rfl
theorem rgr_any (gid gkd:Int) (ga:Option Addr) (l:List Bk) (gc:Nat) (w:World) (h:Bs w ga l) (hu:∀ b ∈ l,AWs b.l) (hn:l.length≤100000) :
    Calls Tryz.prog 43 #[.agg #[.int .i64 gid,.int .i64 gkd,.slice ga l.length gc]] w fun e w'=>e=.returned (.bool (grB gid gkd (l.map Bk.b3)))∧Below w.heap.size w w':=by
  have H1:Hid (∀ w,Calls Tryz.prog 20 #[.int .i64 gid,.int .i64 1,.int .i64 65535] w fun e w'=>e=.returned (.bool (inB gid 1 65535))∧w'=w):=(show ∀ w,_ from fun w=>r8in _ _ _ w)
  have H2:Hid (∀ w,Calls Tryz.prog 20 #[.int .i64 gkd,.int .i64 1,.int .i64 4] w fun e w'=>e=.returned (.bool (inB gkd 1 4))∧w'=w):=(show ∀ w,_ from fun w=>r8in _ _ _ w)
  have HI:Hid (∀ n w,Calls Tryz.prog 20 #[.int .i64 n,.int .i64 0,.int .i64 65535] w fun e w'=>e=.returned (.bool (inB n 0 65535))∧w'=w):=(show ∀ n w,_ from fun n w=>r8in _ _ _ w)
  have HA:Hid (∀ (x:Bk) w,BW w x→AWs x.l→Calls Tryz.prog 40 #[.slice x.a x.l.length x.c,.int .i64 8] w fun e w'=>e=.returned (.tuple #[.string (encodeS x.l),.bool (mostA x.l 8)])∧Below w.heap.size w w'):=(show ∀ x w,_ from fun x w hb ha=>r8acts x.a x.l x.c 8 w hb.t hb.n ha)
  have HG:Hid (grB gid gkd (l.map Bk.b3)=(inB gid 1 65535 && inB gkd 1 4 && decide (l.length≤16) && (l.map Bk.b3).all bkB)):=(show _=_ by unfold grB;rw [List.length_map])
  rw [HG.out]
  clear HG
  cases h1:inB gid 1 65535 with
  | false =>
    rw [h1] at H1
    clear h1 H2 HA HI h hu
    go_enter Tryz.func43,Tryz.ntmps43
    go_wp2_with fail
    refine (H1.out _).mono ?_
    rintro x w1 ⟨rfl,rfl⟩
    go_wp2_with fail
    go_ret
    exact ⟨rfl,by go_grown⟩
  | true =>
    rw [h1] at H1
    cases h2:inB gkd 1 4 with
    | false =>
      rw [h2] at H2
      clear h1 h2 HA HI h hu
      go_enter Tryz.func43,Tryz.ntmps43
      go_wp2_with fail
      refine (H1.out _).mono ?_
      rintro x w1 ⟨rfl,rfl⟩
      go_wp2_with fail
      refine (H2.out _).mono ?_
      rintro x w1 ⟨rfl,rfl⟩
      go_wp2_with fail
      go_ret
      exact ⟨rfl,by go_grown⟩
    | true =>
      rw [h2] at H2
      clear h1 h2
      by_cases h16:l.length≤16
      · have e16:decide (l.length≤16)=true:=by simpa using h16
        have z16 : ¬ ((l.length:Int) > 16):=by omega
        rw [e16]
        clear e16
        obtain ⟨W1,hW1⟩:∃ W1,gx w gid gkd ga l.length gc=W1:=⟨_,rfl⟩
        have G1:Below w.heap.size w W1:=by rw [← hW1];go_grown
        have z1:w.heap.size < W1.heap.size:=by rw [← hW1];simp
        have x2:W1.cell? ⟨w.heap.size,2,none⟩=some (.slice ga l.length gc):=by rw [← hW1];simp
        have HX:Hid (∀ w',Below W1.heap.size W1 w'→w'.cell? ⟨w.heap.size,2,none⟩=some (.slice ga l.length gc)):=(show ∀ w',_ from fun w' g=>(World.cell?_of_block (w:=W1) (g.block _ z1)).trans x2)
        have HL:Hid (Bs W1 ga l):=(show Bs _ _ _ from h.below G1)
        have HGo:Hid (∀ w',Below W1.heap.size W1 w'→Below w.heap.size w w'):=(show ∀ w',_ from fun w' g=>btr G1 g (Nat.le_refl _))
        have HU:Hid (∀ b ∈ l,AWs b.l):=(show ∀ b ∈ l,AWs b.l from hu)
        have HW1:Hid (w.alloc (.cells #[.int .i64 gid,.int .i64 gkd,.slice ga l.length gc] 29)=W1):=hW1
        clear hW1 G1 z1 h hu x2
        go_enter Tryz.func43,Tryz.ntmps43
        go_wp2_with fail
        refine (H1.out _).mono ?_
        rintro x w1 ⟨rfl,rfl⟩
        go_wp2_with fail
        refine (H2.out _).mono ?_
        rintro x w1 ⟨rfl,rfl⟩
        go_wp2_with fail
        rw [HW1.out]
        go_loopw [3] (fun i wr=>∃ k:Nat,k≤l.length∧i=.int .i64 k∧((l.take k).map Bk.b3).all bkB=true∧Below W1.heap.size W1 wr) (fun i _=>l.length - (intOf i).toNat)
        case atStart=>exact ⟨0,Nat.zero_le _,rfl,by simp,Below.refl _ _⟩
        case round =>
          obtain ⟨k,hk,rfl,ha,hbel⟩:=hrel
          have x2:=HX.out _ hbel
          by_cases hlt:k < l.length
          · have hT:=HL.out.below hbel
            obtain ⟨g,o,rfl,hg,hc⟩:=hT.at hlt
            obtain ⟨c0,c1,c2⟩:=hc k hlt
            have hW:=hT.1 l[k] (List.getElem_mem hlt)
            have hs:=bk_snoc l k hlt
            rw [ha,Bool.true_and] at hs
            have HE:Hid (bkB l[k].b3=false→(l.map Bk.b3).all bkB=false):=(show bkB l[k].b3=false→(l.map Bk.b3).all bkB=false from fun hf=>by
              rw [List.all_eq_false]
              exact ⟨l[k].b3,List.mem_map_of_mem (List.getElem_mem hlt),by simp [hf]⟩)
            have HS:Hid (((l.take (k + 1)).map Bk.b3).all bkB=bkB l[k].b3):=hs
            have HAk:Hid (Calls Tryz.prog 40 #[.slice l[k].a l[k].l.length l[k].c,.int .i64 8] wr fun e w'=>e=.returned (.tuple #[.string (encodeS l[k].l),.bool (mostA l[k].l 8)])∧Below wr.heap.size wr w'):=(show Calls _ _ _ _ _ from HA.out l[k] wr hW (HU.out _ (List.getElem_mem hlt)))
            have HC:Hid (∀ w',Below wr.heap.size wr w'→w'.cell? ⟨w.heap.size,2,none⟩=some (.slice (some ⟨g,o,none⟩) l.length gc)∧w'.cell? ⟨g,o + k * 3,none⟩=some (.int .i64 l[k].wa)∧w'.cell? ⟨g,o + k * 3 + 1,none⟩=some (.int .i64 l[k].we)∧Below W1.heap.size W1 w'):=(show ∀ w',_ from fun w' gg=>⟨HX.out _ (btr hbel gg (Nat.le_refl _)),(World.cell?_of_block (w:=wr) (gg.block _ hg)).trans c0,(World.cell?_of_block (w:=wr) (gg.block _ hg)).trans c1,btr hbel gg (Nat.le_refl _)⟩)
            have HQ:Hid (bkB l[k].b3=(mostA l[k].l 8 && inB l[k].wa 0 65535 && inB l[k].we 0 65535)):=(show _=_ from bkB_eq _)
            clear hs ha hc hT hW
            generalize l[k]=X at *
            cases m1:mostA X.l 8 with
            | false =>
              have f:bkB X.b3=false:=by rw [HQ.out,m1];rfl
              have HF:Hid ((l.map Bk.b3).all bkB=false):=HE.out f
              rw [m1] at HAk
              clear f m1
              go_wp2_with fail
              refine HAk.out.mono ?_
              rintro r w1 ⟨rfl,g1⟩
              obtain ⟨_,_,_,b1⟩:=HC.out _ g1
              go_wp2_with fail
              go_ret
              exact ⟨by rw [HF.out];rfl,HGo.out _ b1⟩
            | true =>
              rw [m1] at HAk
              have I1:Hid (∀ w,Calls Tryz.prog 20 #[.int .i64 X.wa,.int .i64 0,.int .i64 65535] w fun e w'=>e=.returned (.bool (inB X.wa 0 65535))∧w'=w):=(show ∀ w,_ from fun w=>HI.out _ w)
              have I2:Hid (∀ w,Calls Tryz.prog 20 #[.int .i64 X.we,.int .i64 0,.int .i64 65535] w fun e w'=>e=.returned (.bool (inB X.we 0 65535))∧w'=w):=(show ∀ w,_ from fun w=>HI.out _ w)
              cases m2:inB X.wa 0 65535 with
              | false =>
                have f:bkB X.b3=false:=by rw [HQ.out,m1,m2];rfl
                have HF:Hid ((l.map Bk.b3).all bkB=false):=HE.out f
                rw [m2] at I1
                clear f m1 m2
                go_wp2_with fail
                refine HAk.out.mono ?_
                rintro r w1 ⟨rfl,g1⟩
                obtain ⟨d0,d1,d2,b1⟩:=HC.out _ g1
                clear c0 c1 c2 x2
                go_wp2_with fail
                refine (I1.out _).mono ?_
                rintro r w2 ⟨rfl,z⟩
                obtain rfl:w1=w2:=z.symm
                go_wp2_with fail
                go_ret
                exact ⟨by rw [HF.out];rfl,HGo.out _ b1⟩
              | true =>
                rw [m2] at I1
                cases m3:inB X.we 0 65535 with
                | false =>
                  have f:bkB X.b3=false:=by rw [HQ.out,m1,m2,m3];rfl
                  have HF:Hid ((l.map Bk.b3).all bkB=false):=HE.out f
                  rw [m3] at I2
                  clear f m1 m2 m3
                  go_wp2_with fail
                  refine HAk.out.mono ?_
                  rintro r w1 ⟨rfl,g1⟩
                  obtain ⟨d0,d1,d2,b1⟩:=HC.out _ g1
                  clear c0 c1 c2 x2
                  go_wp2_with fail
                  refine (I1.out _).mono ?_
                  rintro r w2 ⟨rfl,z⟩
                  obtain rfl:w1=w2:=z.symm
                  go_wp2_with fail
                  refine (I2.out _).mono ?_
                  rintro r w2 ⟨rfl,z⟩
                  obtain rfl:w1=w2:=z.symm
                  go_wp2_with fail
                  go_ret
                  exact ⟨by rw [HF.out];rfl,HGo.out _ b1⟩
                | true =>
                  have f:bkB X.b3=true:=by rw [HQ.out,m1,m2,m3];rfl
                  have HF:Hid (((l.take (k + 1)).map Bk.b3).all bkB=true):=(show _=_ by rw [HS.out,f])
                  rw [m3] at I2
                  clear f m1 m2 m3
                  go_wp2_with fail
                  refine HAk.out.mono ?_
                  rintro r w1 ⟨rfl,g1⟩
                  obtain ⟨d0,d1,d2,b1⟩:=HC.out _ g1
                  clear c0 c1 c2 x2
                  go_wp2_with fail
                  refine (I1.out _).mono ?_
                  rintro r w2 ⟨rfl,z⟩
                  obtain rfl:w1=w2:=z.symm
                  go_wp2_with fail
                  refine (I2.out _).mono ?_
                  rintro r w2 ⟨rfl,z⟩
                  obtain rfl:w1=w2:=z.symm
                  go_wp2_with fail
                  go_roundw
                  case rel=>exact ⟨k + 1,by omega,by go_num,HF.out,b1⟩
                  case measure=>simp [intOf];omega
          · have hk':k=l.length:=by omega
            subst hk'
            rw [List.take_length] at ha
            go_wp2_with fail
            go_ret
            exact ⟨by rw [ha];rfl,HGo.out _ hbel⟩
      · have e16:decide (l.length≤16)=false:=by simpa using h16
        have z16:(l.length:Int) > 16:=by omega
        rw [e16]
        clear e16 HA HI h hu
        go_enter Tryz.func43,Tryz.ntmps43
        go_wp2_with fail
        refine (H1.out _).mono ?_
        rintro x w1 ⟨rfl,rfl⟩
        go_wp2_with fail
        refine (H2.out _).mono ?_
        rintro x w1 ⟨rfl,rfl⟩
        go_wp2_with fail
        go_ret
        exact ⟨rfl,by go_grown⟩
end Go.Proofs.YtlcbfdiohcbpbaaGreatDoor

import Derived.Test.YtlcbfdiohcbpbaaGreatDoorZB
import Derived.Laws.AppendOwn
import Derived.Laws.OwnMore
import Derived.Deep.RegionHeld
namespace Go.Proofs.YtlcbfdiohcbpbaaGreatDoor.Mt
set_option maxHeartbeats 60000000
set_option maxRecDepth 20000
open Go.ChangeShapes Go.WideShapes Go.ChangeAt Go.RowKit
theorem rwidth_any (f:Int) (w:World):Calls Tryz.prog 109 #[.int .i64 f] w fun e w'=>e=.returned (.int .i64 (wdV f))∧Below w.heap.size w w':=by
 by_cases h:f < 1∨9 < f
 ·rw [wdV_none h]
  rcases h with h | h
  ·go_enter Tryz.func109,Tryz.ntmps109
   go_wp2
   go_ret
   exact ⟨rfl,by go_grown⟩
  ·have h1 : ¬ f < 1:=by omega
   go_enter Tryz.func109,Tryz.ntmps109
   go_wp2
   go_ret
   exact ⟨rfl,by go_grown⟩
 ·rcases cls9 h with rfl | rfl | rfl | rfl | rfl | rfl | rfl | rfl | rfl
  all_goals
   clear h
   go_enter Tryz.func109,Tryz.ntmps109
   go_wp2
   go_ret
   exact ⟨rfl,by go_grown⟩
theorem rall_any (f:Int) (w:World):Calls Tryz.prog 93 #[.int .i64 f] w fun e w'=>e=.returned (.int .u64 (grV f))∧Below w.heap.size w w':=by
 by_cases h:f < 1∨9 < f
 ·have hw:=rwidth_any f
  rw [wdV_none h] at hw
  rw [grV_none h]
  clear h
  go_enter Tryz.func93,Tryz.ntmps93
  go_wp2_with fail
  refine (hw _).mono ?_
  rintro x w1 ⟨rfl,g1⟩
  go_wp2_with fail
  go_ret
  exact ⟨rfl,g1⟩
 ·rcases cls9 h with rfl | rfl | rfl | rfl | rfl | rfl | rfl | rfl | rfl
  all_goals
   clear h
   go_enter Tryz.func93,Tryz.ntmps93
   go_wp2_with fail
   refine (rwidth_any _ _).mono ?_
   rintro x w1 ⟨rfl,g1⟩
   simp only [show wdV 1=32 from rfl,show wdV 2=64 from rfl,show wdV 3=13 from rfl,show wdV 4=16 from rfl,show wdV 5=32 from rfl,show wdV 6=32 from rfl,show wdV 7=8 from rfl,show wdV 8=16 from rfl,show wdV 9=16 from rfl]
   go_wp2_with fail
   go_ret
   exact ⟨rfl,g1⟩
theorem wholeV_drop (l:List T) (n k:Nat) (f:Int) (hn:n≤l.length) (hk:k < n) :
    wholeV ((l.take n).drop k) f=if (l[k]'(by omega)).1=f∧(l[k]'(by omega)).2.2=grV f then some (l[k]'(by omega)).2.1 else wholeV ((l.take n).drop (k + 1)) f:=by
  have hlen:k < (l.take n).length:=by rw [List.length_take];omega
  rw [List.drop_eq_getElem_cons hlen,List.getElem_take]
  by_cases h:(l[k]'(by omega)).1=f∧(l[k]'(by omega)).2.2=grV f
  · rw [if_pos h]
    simp [wholeV,h.1,h.2]
  · rw [if_neg h]
    have:((l[k]'(by omega)).1 == f && (l[k]'(by omega)).2.2 == grV f)=false:=by
      rw [Bool.and_eq_false_iff,beq_eq_false_iff_ne,beq_eq_false_iff_ne]
      by_cases h1:(l[k]'(by omega)).1=f
      · exact .inr fun h2=>h ⟨h1,h2⟩
      · exact .inl h1
    simp [wholeV,this]
theorem rwhole_any (a:Option Addr) (l:List T) (cap:Nat) (f:Int) (n:Nat) (w:World) (h:Ts w a l) (hl:l.length≤100000) (hn:n≤l.length) :
    Calls Tryz.prog 110 #[.slice a l.length cap,.int .i64 f,.int .i64 n] w fun e w'=>e=.returned (.tuple #[.int .u64 ((wholeV (l.take n) f).getD 0),.bool (wholeV (l.take n) f).isSome])∧Below w.heap.size w w':=by
  have HA:Hid (∀ w,Calls Tryz.prog 93 #[.int .i64 f] w fun e w'=>e=.returned (.int .u64 (grV f))∧Below w.heap.size w w'):=fun w=>rall_any f w
  generalize hR:wholeV (l.take n) f=R
  have HX:Hid (∀ k (hk:k < n),wholeV ((l.take n).drop k) f=if (l[k]'(by omega)).1=f∧(l[k]'(by omega)).2.2=grV f then some (l[k]'(by omega)).2.1 else wholeV ((l.take n).drop (k + 1)) f):=fun k hk=>wholeV_drop l n k f hn hk
  go_enter Tryz.func110,Tryz.ntmps110
  go_wp2_with fail
  go_loopw [8] (fun i wr=>∃ k:Nat,k≤n∧i=.int .i64 k∧wholeV ((l.take n).drop k) f=R∧Below w.heap.size w wr) (fun i _=>n - (intOf i).toNat)
  case atStart=>exact ⟨0,by omega,rfl,hR,Below.refl _ _⟩
  case round =>
    obtain ⟨k,hk,rfl,hr,hbel⟩:=hrel
    by_cases hlt:k < n
    · have hkl:k < l.length:=by omega
      have hT:=h.below hbel
      obtain ⟨g,o,rfl,hg,hcs⟩:=hT.at hkl
      have hc:=hcs k hkl
      have q:=C3.gr hc hg
      have q0:=fun n=>(q n).1
      have q2:=fun n=>(q n).2.2
      clear q
      have hx:=HX.out k hlt
      rw [hr] at hx
      cases h1:(l[k].1 == f) with
      | false =>
        have hne : ¬ l[k].1=f:=by simpa using h1
        have HY:Hid (wholeV ((l.take n).drop (k + 1)) f=R):=(show _=_ by rw [hx,if_neg (fun y=>hne y.1)])
        clear hx hr hR
        go_wp2_with fail
        refine wp_region_grow (by kernel_rfl) (by kernel_rfl) ?_
        repeat (go_big_quiet_step (first | (go_at_call 93;exact quiet_gr (HA.out _))))
        refine wpQuiet_nil ?_
        rintro w2 hw'
        have g2:=gr_elim hw'
        clear hw'
        have g3:Below w.heap.size w w2:=btr hbel g2 (Nat.le_refl _)
        go_wp2_with fail
        go_roundw
        case rel=>exact ⟨k + 1,by omega,by go_num,HY.out,g3⟩
        case measure=>simp [intOf];omega
      | true =>
        have he:l[k].1=f:=by simpa using h1
        cases h2:(l[k].2.2 == grV f) with
        | false =>
          have hne : ¬ l[k].2.2=grV f:=by simpa using h2
          have HY:Hid (wholeV ((l.take n).drop (k + 1)) f=R):=(show _=_ by rw [hx,if_neg (fun y=>hne y.2)])
          clear hx hr hR he hne
          go_wp2_with fail
          refine wp_region_grow (by kernel_rfl) (by kernel_rfl) ?_
          repeat (go_big_quiet_step (first | (go_at_call 93;exact quiet_gr (HA.out _))))
          refine wpQuiet_nil ?_
          rintro w2 hw'
          have g2:=gr_elim hw'
          clear hw'
          have g3:Below w.heap.size w w2:=btr hbel g2 (Nat.le_refl _)
          try rw [h2]
          go_wp2_with fail
          go_roundw
          case rel=>exact ⟨k + 1,by omega,by go_num,HY.out,g3⟩
          case measure=>simp [intOf];omega
        | true =>
          have he2:l[k].2.2=grV f:=by simpa using h2
          have HY:Hid (R=some l[k].2.1):=(show _=_ by rw [hx,if_pos ⟨he,he2⟩])
          clear hx hr hR he he2
          go_wp2_with fail
          refine wp_region_grow (by kernel_rfl) (by kernel_rfl) ?_
          repeat (go_big_quiet_step (first | (go_at_call 93;exact quiet_gr (HA.out _))))
          refine wpQuiet_nil ?_
          rintro w2 hw'
          have g2:=gr_elim hw'
          clear hw'
          obtain ⟨c0,c1,c2⟩:=C3.below (t:=l[k]) hc hg g2
          have g3:Below w.heap.size w w2:=btr hbel g2 (Nat.le_refl _)
          try rw [h2]
          go_wp2_with fail
          go_ret2
          exact ⟨by rw [HY.out];rfl,g3⟩
    · have hk':k=n:=by omega
      subst hk'
      have e:R=none:=by
        rw [← hr,List.drop_of_length_le (by rw [List.length_take];omega)]
        rfl
      go_wp2_with fail
      go_ret2
      exact ⟨by rw [e];rfl,hbel⟩
theorem rrightGo_at (l:List T) (k:Nat) (h:k < l.length):rrightGo (l.take k) (l.drop k)=if rbehindE l[k] (l.take k)=0 then rrightGo (l.take (k + 1)) (l.drop (k + 1)) else rbehindE l[k] (l.take k):=by
 rw [List.drop_eq_getElem_cons h,rrightGo,take_snoc_get l k h]
def r7 (t:T) (l:List T):Bool:=decide (l≠[]∧t.1≤lastF l)
def r12 (f:Int) (l:List T):Bool:=(decide (5≤f) && decide (f≤7)) && (!(wholeV l 4).isSome || ((wholeV l 4).getD 0 != 2048))
def r15 (f:Int) (l:List T):Bool:=decide (8≤f) && (!(wholeV l 7).isSome || (((wholeV l 7).getD 0 != 6) && ((wholeV l 7).getD 0 != 17)))
def F12 (a b c d:Bool):Bool:=(a && b) && (!c || d)
def F15 (a c d e:Bool):Bool:=a && (!c || (d && e))
theorem r_stand (f:Int) (l:List T):rstandB f l=(!r12 f l && !r15 f l):=by
  unfold rstandB r12 r15
  by_cases h1:5≤f∧f≤7
  · rw [if_pos h1]
    have h8 : ¬ 8≤f:=by omega
    cases hw:wholeV l 4 with
    | none=>simp [h1.1,h1.2,h8]
    | some v=>by_cases hv:v=2048 <;> simp [h1.1,h1.2,h8,hv]
  · rw [if_neg h1]
    have hx:(decide (5≤f) && decide (f≤7))=false:=by
      rw [Bool.and_eq_false_iff,decide_eq_false_iff_not,decide_eq_false_iff_not];omega
    rw [hx]
    by_cases h8:8≤f
    · rw [if_pos h8]
      cases hw:wholeV l 7 with
      | none=>simp [h8]
      | some v =>
        by_cases h6:v=6 <;> by_cases h17:v=17 <;> simp [h8,h6,h17]
    · rw [if_neg h8];simp [h8]
theorem r_behind (t:T) (l:List T) (h:(wdV t.1 == 0)=false):rbehindE t l=if r7 t l=true then 21 else if rfitB t=false then 21 else if r12 t.1 l=true then 21 else if r15 t.1 l=true then 21 else 0:=by
  have h0 : ¬ wdV t.1=0:=by simpa using h
  unfold rbehindE
  rw [if_neg h0,r_stand]
  by_cases h7:l≠[]∧t.1≤lastF l
  · have e7:r7 t l=true:=by unfold r7;exact decide_eq_true h7
    rw [if_pos (.inl h7),if_pos e7]
  · have e7 : ¬ r7 t l=true:=by unfold r7;rw [decide_eq_true_iff];exact h7
    rw [if_neg e7]
    cases hf:rfitB t with
    | false=>rw [if_pos (.inr (.inl rfl)),if_pos rfl]
    | true =>
      rw [if_neg (show ¬ true=false by decide)]
      cases r12 t.1 l <;> cases r15 t.1 l <;> simp [h7]
theorem rright_any (a:Option Addr) (l:List T) (cap:Nat) (w:World) (h:Ts w a l) (hl:l.length≤100000) :
    Calls Tryz.prog 77 #[.slice a l.length cap] w fun e w'=>e=.returned (.int .i64 (rrightGo [] l))∧Below w.heap.size w w':=by
  have HH:Hid (∀ f k w,k≤l.length→Ts w a l→Calls Tryz.prog 110 #[.slice a l.length cap,.int .i64 f,.int .i64 k] w fun e w'=>e=.returned (.tuple #[.int .u64 ((wholeV (l.take k) f).getD 0),.bool (wholeV (l.take k) f).isSome])∧Below w.heap.size w w'):=fun f k w hk h=>rwhole_any a l cap f k w h hl hk
  have HW:Hid (∀ f w,Calls Tryz.prog 109 #[.int .i64 f] w fun e w'=>e=.returned (.int .i64 (wdV f))∧Below w.heap.size w w'):=fun f w=>rwidth_any f w
  have HA:Hid (∀ f w,Calls Tryz.prog 93 #[.int .i64 f] w fun e w'=>e=.returned (.int .u64 (grV f))∧Below w.heap.size w w'):=fun f w=>rall_any f w
  generalize hR:rrightGo [] l=R
  go_enter Tryz.func77,Tryz.ntmps77
  go_wp2_with fail
  go_loopw [3] (fun i wr=>∃ k:Nat,k≤l.length∧i=.int .i64 k∧rrightGo (l.take k) (l.drop k)=R∧Below w.heap.size w wr) (fun i _=>l.length - (intOf i).toNat)
  case atStart=>exact ⟨0,by omega,rfl,hR,Below.refl _ _⟩
  case round =>
    obtain ⟨k,hk,rfl,hr,hbel⟩:=hrel
    by_cases hlt:k < l.length
    · have hT:=h.below hbel
      obtain ⟨g,o,rfl,hg,hcs⟩:=hT.at hlt
      have hc:=hcs k hlt
      have hr':=rrightGo_at l k hlt
      rw [hr] at hr'
      clear hr hR
      obtain ⟨c0,c1,c2⟩:=hc
      have hB:∀ X,Below (tx wr l[k]).heap.size (tx wr l[k]) X→Below w.heap.size w X:=fun X g=>btr (hbel.alloc hbel.size _) g (Nat.le_refl _)
      have hC:∀ X,Below (tx wr l[k]).heap.size (tx wr l[k]) X→C3 X wr.heap.size 0 l[k]∧wr.heap.size < X.heap.size:=fun X g=>⟨(C3.new wr l[k]).below (by simp) g,Nat.lt_of_lt_of_le (by simp) g.size⟩
      have hS:∀ X,Below (tx wr l[k]).heap.size (tx wr l[k]) X→Ts X (some ⟨g,o,none⟩) l:=fun X g=>(hT.alloc _).below g
      replace hB:Hid _:=hB
      replace hC:Hid _:=hC
      replace hS:Hid _:=hS
      cases hb:(wdV l[k].1 == 0) with
      | true =>
        have h0:wdV l[k].1=0:=by simpa using hb
        have HY:Hid (R=20):=(show _=_ by
          have:rbehindE l[k] (l.take k)=20:=by unfold rbehindE;rw [if_pos h0]
          rw [hr',this,if_neg (by decide)])
        clear hr' h0
        go_wp2_with fail
        refine (HW.out _ _).mono ?_
        rintro x w1 ⟨rfl,g1⟩
        go_wp2_with fail
        go_ret
        exact ⟨by rw [HY.out];rfl,hB.out _ g1⟩
      | false =>
        have hbe:=r_behind l[k] (l.take k) hb
        generalize rbehindE l[k] (l.take k)=e at *
        have HR0:Hid _:=hr'
        have hr2:Hid _:=hbe
        clear hr' hbe
        have hz:k=0∨∃ j,k=j + 1:=by
          cases k with
          | zero=>exact .inl rfl
          | succ j=>exact .inr ⟨j,rfl⟩
        rcases hz with rfl | ⟨j,rfl⟩
        · have e7:r7 l[0] (l.take 0)=false:=by unfold r7;simp
          simp only [Nat.zero_mul,Nat.add_zero] at c0 c1 c2
          go_wp2_with fail
          refine (HW.out _ _).mono ?_
          rintro x w1 ⟨rfl,g1⟩
          obtain ⟨k1,s1⟩:=hC.out _ g1
          have q:=C3.gr k1 s1
          have q0:=fun n=>(q n).1
          clear q
          obtain ⟨d0,d1,d2⟩:=k1
          have hr3:Hid _:=(show _ from by have:=hr2.out;rw [if_neg (by rw [e7];decide)] at this;exact this)
          clear hr2 e7
          go_wp2_with fail
          refine wp_region_grow (by kernel_rfl) (by kernel_rfl) ?_
          repeat (go_big_quiet_step (fail))
          refine wpQuiet_nil ?_
          rintro w2 hw'
          have g2:=btr g1 (gr_elim hw') (Nat.le_refl _)
          clear hw' q0 d0 d1 d2
          obtain ⟨k2,s2⟩:=hC.out _ g2
          have q:=C3.gr k2 s2
          have q0:=fun n=>(q n).1
          have q1:=fun n=>(q n).2.1
          have q2:=fun n=>(q n).2.2
          clear q
          obtain ⟨d0,d1,d2⟩:=k2
          cases m0:(l[0].2.2 == 0) with
          | true =>
            have HF:rfitB l[0]=false:=by unfold rfitB;simp [m0]
            have HY:Hid (R=21):=(show _=_ by have:=hr3.out;rw [if_pos HF] at this;rw [HR0.out,this,if_neg (by decide)])
            clear hr3 HF
            go_wp2_with fail
            refine wp_region_grow (by kernel_rfl) (by kernel_rfl) ?_
            repeat (go_big_quiet_step (first | (go_at_call 93;exact quiet_gr (HA.out _ _))))
            refine wpQuiet_nil ?_
            rintro w3 hw'
            have g3:=btr g2 (gr_elim hw') (Nat.le_refl _)
            clear hw'
            go_wp2_with fail
            go_ret
            exact ⟨by rw [HY.out];rfl,hB.out _ g3⟩
          | false =>
            cases m1:(bits .and .u64 l[0].2.2 (grV l[0].1) != l[0].2.2) with
            | true =>
              have m1':(bits .and .u64 l[0].2.2 (grV l[0].1) == l[0].2.2)=false:=by simpa using m1
              have HF:rfitB l[0]=false:=by unfold rfitB;simp [m1']
              have HY:Hid (R=21):=(show _=_ by have:=hr3.out;rw [if_pos HF] at this;rw [HR0.out,this,if_neg (by decide)])
              clear hr3 HF
              go_wp2_with fail
              refine wp_region_grow (by kernel_rfl) (by kernel_rfl) ?_
              repeat (go_big_quiet_step (first | (go_at_call 93;exact quiet_gr (HA.out _ _))))
              refine wpQuiet_nil ?_
              rintro w3 hw'
              have g3:=btr g2 (gr_elim hw') (Nat.le_refl _)
              clear hw'
              go_wp2_with fail
              go_ret
              exact ⟨by rw [HY.out];rfl,hB.out _ g3⟩
            | false =>
              cases m2:(bits .and .u64 l[0].2.1 l[0].2.2 != l[0].2.1) with
              | true =>
                have m2':(bits .and .u64 l[0].2.1 l[0].2.2 == l[0].2.1)=false:=by simpa using m2
                have HF:rfitB l[0]=false:=by unfold rfitB;simp [m2']
                have HY:Hid (R=21):=(show _=_ by have:=hr3.out;rw [if_pos HF] at this;rw [HR0.out,this,if_neg (by decide)])
                clear hr3 HF
                go_wp2_with fail
                refine wp_region_grow (by kernel_rfl) (by kernel_rfl) ?_
                repeat (go_big_quiet_step (first | (go_at_call 93;exact quiet_gr (HA.out _ _))))
                refine wpQuiet_nil ?_
                rintro w3 hw'
                have g3:=btr g2 (gr_elim hw') (Nat.le_refl _)
                clear hw'
                go_wp2_with fail
                go_ret
                exact ⟨by rw [HY.out];rfl,hB.out _ g3⟩
              | false =>
                have m1':(bits .and .u64 l[0].2.2 (grV l[0].1) == l[0].2.2)=true:=by simpa using m1
                have m2':(bits .and .u64 l[0].2.1 l[0].2.2 == l[0].2.1)=true:=by simpa using m2
                have HF:rfitB l[0]=true:=by unfold rfitB;rw [m0,m1',m2'];rfl
                have hr4:Hid _:=(show _ from by have:=hr3.out;rw [if_neg (by rw [HF];decide)] at this;exact this)
                clear hr3 HF m1' m2'
                go_wp2_with fail
                refine wp_region_grow (by kernel_rfl) (by kernel_rfl) ?_
                repeat (go_big_quiet_step (first | (go_at_call 93;exact quiet_gr (HA.out _ _))))
                refine wpQuiet_nil ?_
                rintro w3 hw'
                have g3:=btr g2 (gr_elim hw') (Nat.le_refl _)
                clear hw' q0 q1 q2 d0 d1 d2 m0 m1 m2
                go_wp2_with fail
                refine (HH.out 4 0 _ hk (hS.out _ g3)).mono ?_
                rintro x w4 ⟨rfl,g4'⟩
                have g4:=btr g3 g4' (Nat.le_refl _)
                clear g4'
                obtain ⟨k4,s4⟩:=hC.out _ g4
                obtain ⟨d0,d1,d2⟩:=k4
                have e12:r12 l[0].1 (l.take 0)=F12 (decide (5≤l[0].1)) (decide (l[0].1≤7)) (wholeV (l.take 0) 4).isSome ((wholeV (l.take 0) 4).getD 0 != 2048):=rfl
                have e15:r15 l[0].1 (l.take 0)=F15 (decide (8≤l[0].1)) (wholeV (l.take 0) 7).isSome ((wholeV (l.take 0) 7).getD 0 != 6) ((wholeV (l.take 0) 7).getD 0 != 17):=rfl
                generalize (wholeV (l.take 0) 4).isSome=i4 at *
                generalize (wholeV (l.take 0) 4).getD 0=v4 at *
                have HE12:Hid _:=e12
                have HE15:Hid _:=e15
                clear e12 e15
                by_cases p5:5≤l[0].1
                · by_cases p7:l[0].1≤7
                  · have a5:decide (5≤l[0].1)=true:=decide_eq_true p5
                    have a7:decide (l[0].1≤7)=true:=decide_eq_true p7
                    have a8:decide (8≤l[0].1)=false:=decide_eq_false (by omega)
                    have n8 : ¬ 8≤l[0].1:=by omega
                    cases i4
                    · have e12:r12 l[0].1 (l.take 0)=true:=HE12.out.trans (by rw [a5,a7];rfl)
                      have HY:Hid (R=21):=(show _=_ by have:=hr4.out;rw [if_pos e12] at this;rw [HR0.out,this,if_neg (by decide)])
                      clear e12
                      go_wp2_with fail
                      go_ret
                      exact ⟨by rw [HY.out];rfl,hB.out _ g4⟩
                    · cases a4:(v4 != 2048)
                      · have e12:r12 l[0].1 (l.take 0)=false:=HE12.out.trans (by rw [a5,a7,a4];rfl)
                        have hr5:Hid _:=(show _ from by have:=hr4.out;rw [if_neg (by rw [e12];decide)] at this;exact this)
                        clear e12 HE12
                        go_wp2_with fail
                        refine (HH.out 7 0 _ hk (hS.out _ g4)).mono ?_
                        rintro x w5 ⟨rfl,g5'⟩
                        have g5:=btr g4 g5' (Nat.le_refl _)
                        clear g5'
                        have k5:=(hC.out _ g5).1
                        clear d0 d1 d2
                        obtain ⟨d0,d1,d2⟩:=k5
                        have e15:r15 l[0].1 (l.take 0)=false:=HE15.out.trans (by rw [a8];rfl)
                        have hr6:Hid (rrightGo (l.take (0 + 1)) (l.drop (0 + 1))=R):=(show _=_ by have:=hr5.out;rw [if_neg (by rw [e15];decide)] at this;have h2:=HR0.out;rw [this,if_pos rfl] at h2;exact h2.symm)
                        clear e15
                        go_wp2_with fail
                        go_roundw
                        case rel=>exact ⟨0 + 1,by omega,by go_num,hr6.out,hB.out _ g5⟩
                        case measure=>simp [intOf];omega
                      · have e12:r12 l[0].1 (l.take 0)=true:=HE12.out.trans (by rw [a5,a7,a4];rfl)
                        have HY:Hid (R=21):=(show _=_ by have:=hr4.out;rw [if_pos e12] at this;rw [HR0.out,this,if_neg (by decide)])
                        clear e12
                        go_wp2_with fail
                        go_ret
                        exact ⟨by rw [HY.out];rfl,hB.out _ g4⟩
                  · have a5:decide (5≤l[0].1)=true:=decide_eq_true p5
                    have a7:decide (l[0].1≤7)=false:=decide_eq_false p7
                    have a8:decide (8≤l[0].1)=true:=decide_eq_true (by omega)
                    have n8:8≤l[0].1:=by omega
                    have e12:r12 l[0].1 (l.take 0)=false:=HE12.out.trans (by rw [a5,a7];rfl)
                    have hr5:Hid _:=(show _ from by have:=hr4.out;rw [if_neg (by rw [e12];decide)] at this;exact this)
                    clear e12 HE12
                    go_wp2_with fail
                    refine (HH.out 7 0 _ hk (hS.out _ g4)).mono ?_
                    rintro x w5 ⟨rfl,g5'⟩
                    have g5:=btr g4 g5' (Nat.le_refl _)
                    clear g5'
                    have k5:=(hC.out _ g5).1
                    clear d0 d1 d2
                    obtain ⟨d0,d1,d2⟩:=k5
                    generalize (wholeV (l.take 0) 7).isSome=i7 at *
                    generalize (wholeV (l.take 0) 7).getD 0=v7 at *
                    cases i7
                    · have e15:r15 l[0].1 (l.take 0)=true:=HE15.out.trans (by rw [a8];rfl)
                      have HY:Hid (R=21):=(show _=_ by have:=hr5.out;rw [if_pos e15] at this;rw [HR0.out,this,if_neg (by decide)])
                      clear e15
                      go_wp2_with fail
                      go_ret
                      exact ⟨by rw [HY.out];rfl,hB.out _ g5⟩
                    · cases a6:(v7 != 6)
                      · have e15:r15 l[0].1 (l.take 0)=false:=HE15.out.trans (by rw [a8,a6];rfl)
                        have hr6:Hid (rrightGo (l.take (0 + 1)) (l.drop (0 + 1))=R):=(show _=_ by have:=hr5.out;rw [if_neg (by rw [e15];decide)] at this;have h2:=HR0.out;rw [this,if_pos rfl] at h2;exact h2.symm)
                        clear e15
                        go_wp2_with fail
                        go_roundw
                        case rel=>exact ⟨0 + 1,by omega,by go_num,hr6.out,hB.out _ g5⟩
                        case measure=>simp [intOf];omega
                      · cases a17:(v7 != 17)
                        · have e15:r15 l[0].1 (l.take 0)=false:=HE15.out.trans (by rw [a8,a6,a17];rfl)
                          have hr6:Hid (rrightGo (l.take (0 + 1)) (l.drop (0 + 1))=R):=(show _=_ by have:=hr5.out;rw [if_neg (by rw [e15];decide)] at this;have h2:=HR0.out;rw [this,if_pos rfl] at h2;exact h2.symm)
                          clear e15
                          go_wp2_with fail
                          go_roundw
                          case rel=>exact ⟨0 + 1,by omega,by go_num,hr6.out,hB.out _ g5⟩
                          case measure=>simp [intOf];omega
                        · have e15:r15 l[0].1 (l.take 0)=true:=HE15.out.trans (by rw [a8,a6,a17];rfl)
                          have HY:Hid (R=21):=(show _=_ by have:=hr5.out;rw [if_pos e15] at this;rw [HR0.out,this,if_neg (by decide)])
                          clear e15
                          go_wp2_with fail
                          go_ret
                          exact ⟨by rw [HY.out];rfl,hB.out _ g5⟩
                · have a5:decide (5≤l[0].1)=false:=decide_eq_false p5
                  have a8:decide (8≤l[0].1)=false:=decide_eq_false (by omega)
                  have n8 : ¬ 8≤l[0].1:=by omega
                  have e12:r12 l[0].1 (l.take 0)=false:=HE12.out.trans (by rw [a5];rfl)
                  have hr5:Hid _:=(show _ from by have:=hr4.out;rw [if_neg (by rw [e12];decide)] at this;exact this)
                  clear e12 HE12
                  go_wp2_with fail
                  refine (HH.out 7 0 _ hk (hS.out _ g4)).mono ?_
                  rintro x w5 ⟨rfl,g5'⟩
                  have g5:=btr g4 g5' (Nat.le_refl _)
                  clear g5'
                  have k5:=(hC.out _ g5).1
                  clear d0 d1 d2
                  obtain ⟨d0,d1,d2⟩:=k5
                  have e15:r15 l[0].1 (l.take 0)=false:=HE15.out.trans (by rw [a8];rfl)
                  have hr6:Hid (rrightGo (l.take (0 + 1)) (l.drop (0 + 1))=R):=(show _=_ by have:=hr5.out;rw [if_neg (by rw [e15];decide)] at this;have h2:=HR0.out;rw [this,if_pos rfl] at h2;exact h2.symm)
                  clear e15
                  go_wp2_with fail
                  go_roundw
                  case rel=>exact ⟨0 + 1,by omega,by go_num,hr6.out,hB.out _ g5⟩
                  case measure=>simp [intOf];omega
        · have hj:j < l.length:=by omega
          have hcj:=(hcs j hj).1
          have hla:lastF (l.take (j + 1))=l[j].1:=by rw [take_snoc_get l j hj,lastF_snoc]
          have hlen:(l.take (j + 1)).length=j + 1:=by rw [List.length_take];omega
          have hne:l.take (j + 1)≠[]:=by intro h0;rw [h0] at hlen;simp at hlen
          have e7:r7 l[j + 1] (l.take (j + 1))=decide (l[j + 1].1≤l[j].1):=by unfold r7;rw [hla];simp [hne]
          clear hla hne hlen
          go_wp2_with fail
          refine (HW.out _ _).mono ?_
          rintro x w1 ⟨rfl,g1⟩
          obtain ⟨k1,s1⟩:=hC.out _ g1
          have q:=C3.gr k1 s1
          have q0:=fun n=>(q n).1
          clear q
          have hgj:=Nat.lt_of_lt_of_le (Nat.lt_of_lt_of_le hg (show wr.heap.size≤(tx wr l[j + 1]).heap.size by simp)) g1.size
          have p0:∀ n:GrT w1,n.w.cell? ⟨g,o + j * 3,none⟩=some (.int .i64 l[j].1):=fun n=>(n.h.cell (p:=⟨g,o + j * 3,none⟩) hgj).trans ((g1.cell (p:=⟨g,o + j * 3,none⟩) (show g < (tx wr l[j + 1]).heap.size by simp;omega)).trans ((World.cell?_of_block (w:=wr) (heap_alloc_old wr _ hg)).trans hcj))
          obtain ⟨d0,d1,d2⟩:=k1
          cases h7:decide (l[j + 1].1≤l[j].1) with
          | true =>
            rw [h7] at e7
            have HY:Hid (R=21):=(show _=_ by have:=hr2.out;rw [if_pos e7] at this;rw [HR0.out,this,if_neg (by decide)])
            clear hr2
            go_wp2_with fail
            refine wp_region_grow (by kernel_rfl) (by kernel_rfl) ?_
            repeat (go_big_quiet_step (fail))
            refine wpQuiet_nil ?_
            rintro w2 hw'
            have g2:=btr g1 (gr_elim hw') (Nat.le_refl _)
            clear hw'
            go_wp2_with fail
            go_ret
            exact ⟨by rw [HY.out];rfl,hB.out _ g2⟩
          | false =>
            rw [h7] at e7
            have hr3:Hid _:=(show _ from by have:=hr2.out;rw [if_neg (by rw [e7];decide)] at this;exact this)
            clear hr2 e7
            go_wp2_with fail
            refine wp_region_grow (by kernel_rfl) (by kernel_rfl) ?_
            repeat (go_big_quiet_step (fail))
            refine wpQuiet_nil ?_
            rintro w2 hw'
            have g2:=btr g1 (gr_elim hw') (Nat.le_refl _)
            clear hw' q0 d0 d1 d2 p0
            obtain ⟨k2,s2⟩:=hC.out _ g2
            have q:=C3.gr k2 s2
            have q0:=fun n=>(q n).1
            have q1:=fun n=>(q n).2.1
            have q2:=fun n=>(q n).2.2
            clear q
            obtain ⟨d0,d1,d2⟩:=k2
            cases m0:(l[j + 1].2.2 == 0) with
            | true =>
              have HF:rfitB l[j + 1]=false:=by unfold rfitB;simp [m0]
              have HY:Hid (R=21):=(show _=_ by have:=hr3.out;rw [if_pos HF] at this;rw [HR0.out,this,if_neg (by decide)])
              clear hr3 HF
              go_wp2_with fail
              refine wp_region_grow (by kernel_rfl) (by kernel_rfl) ?_
              repeat (go_big_quiet_step (first | (go_at_call 93;exact quiet_gr (HA.out _ _))))
              refine wpQuiet_nil ?_
              rintro w3 hw'
              have g3:=btr g2 (gr_elim hw') (Nat.le_refl _)
              clear hw'
              go_wp2_with fail
              go_ret
              exact ⟨by rw [HY.out];rfl,hB.out _ g3⟩
            | false =>
              cases m1:(bits .and .u64 l[j + 1].2.2 (grV l[j + 1].1) != l[j + 1].2.2) with
              | true =>
                have m1':(bits .and .u64 l[j + 1].2.2 (grV l[j + 1].1) == l[j + 1].2.2)=false:=by simpa using m1
                have HF:rfitB l[j + 1]=false:=by unfold rfitB;simp [m1']
                have HY:Hid (R=21):=(show _=_ by have:=hr3.out;rw [if_pos HF] at this;rw [HR0.out,this,if_neg (by decide)])
                clear hr3 HF
                go_wp2_with fail
                refine wp_region_grow (by kernel_rfl) (by kernel_rfl) ?_
                repeat (go_big_quiet_step (first | (go_at_call 93;exact quiet_gr (HA.out _ _))))
                refine wpQuiet_nil ?_
                rintro w3 hw'
                have g3:=btr g2 (gr_elim hw') (Nat.le_refl _)
                clear hw'
                go_wp2_with fail
                go_ret
                exact ⟨by rw [HY.out];rfl,hB.out _ g3⟩
              | false =>
                cases m2:(bits .and .u64 l[j + 1].2.1 l[j + 1].2.2 != l[j + 1].2.1) with
                | true =>
                  have m2':(bits .and .u64 l[j + 1].2.1 l[j + 1].2.2 == l[j + 1].2.1)=false:=by simpa using m2
                  have HF:rfitB l[j + 1]=false:=by unfold rfitB;simp [m2']
                  have HY:Hid (R=21):=(show _=_ by have:=hr3.out;rw [if_pos HF] at this;rw [HR0.out,this,if_neg (by decide)])
                  clear hr3 HF
                  go_wp2_with fail
                  refine wp_region_grow (by kernel_rfl) (by kernel_rfl) ?_
                  repeat (go_big_quiet_step (first | (go_at_call 93;exact quiet_gr (HA.out _ _))))
                  refine wpQuiet_nil ?_
                  rintro w3 hw'
                  have g3:=btr g2 (gr_elim hw') (Nat.le_refl _)
                  clear hw'
                  go_wp2_with fail
                  go_ret
                  exact ⟨by rw [HY.out];rfl,hB.out _ g3⟩
                | false =>
                  have m1':(bits .and .u64 l[j + 1].2.2 (grV l[j + 1].1) == l[j + 1].2.2)=true:=by simpa using m1
                  have m2':(bits .and .u64 l[j + 1].2.1 l[j + 1].2.2 == l[j + 1].2.1)=true:=by simpa using m2
                  have HF:rfitB l[j + 1]=true:=by unfold rfitB;rw [m0,m1',m2'];rfl
                  have hr4:Hid _:=(show _ from by have:=hr3.out;rw [if_neg (by rw [HF];decide)] at this;exact this)
                  clear hr3 HF m1' m2'
                  go_wp2_with fail
                  refine wp_region_grow (by kernel_rfl) (by kernel_rfl) ?_
                  repeat (go_big_quiet_step (first | (go_at_call 93;exact quiet_gr (HA.out _ _))))
                  refine wpQuiet_nil ?_
                  rintro w3 hw'
                  have g3:=btr g2 (gr_elim hw') (Nat.le_refl _)
                  clear hw' q0 q1 q2 d0 d1 d2 m0 m1 m2
                  go_wp2_with fail
                  refine (HH.out 4 (j + 1) _ hk (hS.out _ g3)).mono ?_
                  rintro x w4 ⟨rfl,g4'⟩
                  have g4:=btr g3 g4' (Nat.le_refl _)
                  clear g4'
                  obtain ⟨k4,s4⟩:=hC.out _ g4
                  obtain ⟨d0,d1,d2⟩:=k4
                  have e12:r12 l[j + 1].1 (l.take (j + 1))=F12 (decide (5≤l[j + 1].1)) (decide (l[j + 1].1≤7)) (wholeV (l.take (j + 1)) 4).isSome ((wholeV (l.take (j + 1)) 4).getD 0 != 2048):=rfl
                  have e15:r15 l[j + 1].1 (l.take (j + 1))=F15 (decide (8≤l[j + 1].1)) (wholeV (l.take (j + 1)) 7).isSome ((wholeV (l.take (j + 1)) 7).getD 0 != 6) ((wholeV (l.take (j + 1)) 7).getD 0 != 17):=rfl
                  generalize (wholeV (l.take (j + 1)) 4).isSome=i4 at *
                  generalize (wholeV (l.take (j + 1)) 4).getD 0=v4 at *
                  have HE12:Hid _:=e12
                  have HE15:Hid _:=e15
                  clear e12 e15
                  by_cases p5:5≤l[j + 1].1
                  · by_cases p7:l[j + 1].1≤7
                    · have a5:decide (5≤l[j + 1].1)=true:=decide_eq_true p5
                      have a7:decide (l[j + 1].1≤7)=true:=decide_eq_true p7
                      have a8:decide (8≤l[j + 1].1)=false:=decide_eq_false (by omega)
                      have n8 : ¬ 8≤l[j + 1].1:=by omega
                      cases i4
                      · have e12:r12 l[j + 1].1 (l.take (j + 1))=true:=HE12.out.trans (by rw [a5,a7];rfl)
                        have HY:Hid (R=21):=(show _=_ by have:=hr4.out;rw [if_pos e12] at this;rw [HR0.out,this,if_neg (by decide)])
                        clear e12
                        go_wp2_with fail
                        go_ret
                        exact ⟨by rw [HY.out];rfl,hB.out _ g4⟩
                      · cases a4:(v4 != 2048)
                        · have e12:r12 l[j + 1].1 (l.take (j + 1))=false:=HE12.out.trans (by rw [a5,a7,a4];rfl)
                          have hr5:Hid _:=(show _ from by have:=hr4.out;rw [if_neg (by rw [e12];decide)] at this;exact this)
                          clear e12 HE12
                          go_wp2_with fail
                          refine (HH.out 7 (j + 1) _ hk (hS.out _ g4)).mono ?_
                          rintro x w5 ⟨rfl,g5'⟩
                          have g5:=btr g4 g5' (Nat.le_refl _)
                          clear g5'
                          have k5:=(hC.out _ g5).1
                          clear d0 d1 d2
                          obtain ⟨d0,d1,d2⟩:=k5
                          have e15:r15 l[j + 1].1 (l.take (j + 1))=false:=HE15.out.trans (by rw [a8];rfl)
                          have hr6:Hid (rrightGo (l.take ((j + 1) + 1)) (l.drop ((j + 1) + 1))=R):=(show _=_ by have:=hr5.out;rw [if_neg (by rw [e15];decide)] at this;have h2:=HR0.out;rw [this,if_pos rfl] at h2;exact h2.symm)
                          clear e15
                          go_wp2_with fail
                          go_roundw
                          case rel=>exact ⟨(j + 1) + 1,by omega,by go_num,hr6.out,hB.out _ g5⟩
                          case measure=>simp [intOf];omega
                        · have e12:r12 l[j + 1].1 (l.take (j + 1))=true:=HE12.out.trans (by rw [a5,a7,a4];rfl)
                          have HY:Hid (R=21):=(show _=_ by have:=hr4.out;rw [if_pos e12] at this;rw [HR0.out,this,if_neg (by decide)])
                          clear e12
                          go_wp2_with fail
                          go_ret
                          exact ⟨by rw [HY.out];rfl,hB.out _ g4⟩
                    · have a5:decide (5≤l[j + 1].1)=true:=decide_eq_true p5
                      have a7:decide (l[j + 1].1≤7)=false:=decide_eq_false p7
                      have a8:decide (8≤l[j + 1].1)=true:=decide_eq_true (by omega)
                      have n8:8≤l[j + 1].1:=by omega
                      have e12:r12 l[j + 1].1 (l.take (j + 1))=false:=HE12.out.trans (by rw [a5,a7];rfl)
                      have hr5:Hid _:=(show _ from by have:=hr4.out;rw [if_neg (by rw [e12];decide)] at this;exact this)
                      clear e12 HE12
                      go_wp2_with fail
                      refine (HH.out 7 (j + 1) _ hk (hS.out _ g4)).mono ?_
                      rintro x w5 ⟨rfl,g5'⟩
                      have g5:=btr g4 g5' (Nat.le_refl _)
                      clear g5'
                      have k5:=(hC.out _ g5).1
                      clear d0 d1 d2
                      obtain ⟨d0,d1,d2⟩:=k5
                      generalize (wholeV (l.take (j + 1)) 7).isSome=i7 at *
                      generalize (wholeV (l.take (j + 1)) 7).getD 0=v7 at *
                      cases i7
                      · have e15:r15 l[j + 1].1 (l.take (j + 1))=true:=HE15.out.trans (by rw [a8];rfl)
                        have HY:Hid (R=21):=(show _=_ by have:=hr5.out;rw [if_pos e15] at this;rw [HR0.out,this,if_neg (by decide)])
                        clear e15
                        go_wp2_with fail
                        go_ret
                        exact ⟨by rw [HY.out];rfl,hB.out _ g5⟩
                      · cases a6:(v7 != 6)
                        · have e15:r15 l[j + 1].1 (l.take (j + 1))=false:=HE15.out.trans (by rw [a8,a6];rfl)
                          have hr6:Hid (rrightGo (l.take ((j + 1) + 1)) (l.drop ((j + 1) + 1))=R):=(show _=_ by have:=hr5.out;rw [if_neg (by rw [e15];decide)] at this;have h2:=HR0.out;rw [this,if_pos rfl] at h2;exact h2.symm)
                          clear e15
                          go_wp2_with fail
                          go_roundw
                          case rel=>exact ⟨(j + 1) + 1,by omega,by go_num,hr6.out,hB.out _ g5⟩
                          case measure=>simp [intOf];omega
                        · cases a17:(v7 != 17)
                          · have e15:r15 l[j + 1].1 (l.take (j + 1))=false:=HE15.out.trans (by rw [a8,a6,a17];rfl)
                            have hr6:Hid (rrightGo (l.take ((j + 1) + 1)) (l.drop ((j + 1) + 1))=R):=(show _=_ by have:=hr5.out;rw [if_neg (by rw [e15];decide)] at this;have h2:=HR0.out;rw [this,if_pos rfl] at h2;exact h2.symm)
                            clear e15
                            go_wp2_with fail
                            go_roundw
                            case rel=>exact ⟨(j + 1) + 1,by omega,by go_num,hr6.out,hB.out _ g5⟩
                            case measure=>simp [intOf];omega
                          · have e15:r15 l[j + 1].1 (l.take (j + 1))=true:=HE15.out.trans (by rw [a8,a6,a17];rfl)
                            have HY:Hid (R=21):=(show _=_ by have:=hr5.out;rw [if_pos e15] at this;rw [HR0.out,this,if_neg (by decide)])
                            clear e15
                            go_wp2_with fail
                            go_ret
                            exact ⟨by rw [HY.out];rfl,hB.out _ g5⟩
                  · have a5:decide (5≤l[j + 1].1)=false:=decide_eq_false p5
                    have a8:decide (8≤l[j + 1].1)=false:=decide_eq_false (by omega)
                    have n8 : ¬ 8≤l[j + 1].1:=by omega
                    have e12:r12 l[j + 1].1 (l.take (j + 1))=false:=HE12.out.trans (by rw [a5];rfl)
                    have hr5:Hid _:=(show _ from by have:=hr4.out;rw [if_neg (by rw [e12];decide)] at this;exact this)
                    clear e12 HE12
                    go_wp2_with fail
                    refine (HH.out 7 (j + 1) _ hk (hS.out _ g4)).mono ?_
                    rintro x w5 ⟨rfl,g5'⟩
                    have g5:=btr g4 g5' (Nat.le_refl _)
                    clear g5'
                    have k5:=(hC.out _ g5).1
                    clear d0 d1 d2
                    obtain ⟨d0,d1,d2⟩:=k5
                    have e15:r15 l[j + 1].1 (l.take (j + 1))=false:=HE15.out.trans (by rw [a8];rfl)
                    have hr6:Hid (rrightGo (l.take ((j + 1) + 1)) (l.drop ((j + 1) + 1))=R):=(show _=_ by have:=hr5.out;rw [if_neg (by rw [e15];decide)] at this;have h2:=HR0.out;rw [this,if_pos rfl] at h2;exact h2.symm)
                    clear e15
                    go_wp2_with fail
                    go_roundw
                    case rel=>exact ⟨(j + 1) + 1,by omega,by go_num,hr6.out,hB.out _ g5⟩
                    case measure=>simp [intOf];omega
    · have hk':k=l.length:=by omega
      subst hk'
      have e:R=0:=by rw [← hr];simp [rrightGo]
      go_wp2_with fail
      go_ret
      exact ⟨by rw [e];rfl,hbel⟩
set_option linter.unusedSimpArgs false
theorem pieces_at:∀ (k:Nat) (n:Int) (j:Nat),j < k→(pieces n k)[j]? = some (n / 2 ^ (8 * (k - 1 - j)) % 256)
  | 0,_,_,h=>absurd h (Nat.not_lt_zero _)
  | k + 1,n,j,h=>by
    by_cases hj:j < k
    · rw [pieces,List.getElem?_append_left (by rw [pieces_length];exact hj),pieces_at k (n / 256) j hj]
      have e:k + 1 - 1 - j=(k - 1 - j) + 1:=by omega
      rw [e,Int.ediv_ediv_of_nonneg (by omega)]
      have e2:8 * (k - 1 - j + 1)=8 + 8 * (k - 1 - j):=by omega
      rw [e2,Int.pow_add]
      rfl
    · have:j=k:=by omega
      subst this
      rw [pieces,List.getElem?_append_right (by rw [pieces_length];exact Nat.le_refl _),pieces_length]
      simp
theorem pieces_take (k:Nat) (n:Int) (j:Nat) (h:j < k):(pieces n k).take (j + 1)=(pieces n k).take j ++ [n / 2 ^ (8 * (k - 1 - j)) % 256]:=by
 rw [List.take_add_one,pieces_at k n j h];rfl
theorem cv_own (w:World) (base:Nat) (v:Value) (k:Nat) (xs:List Int) (hk:1≤k) (h:w.ownsRow base 5 1 v k (xs.map (Value.int .u8))) :
    ∃ g cap,v=.slice (some ⟨g,0,none⟩) k cap∧(convert 114 9 (.slice (some ⟨g,0,none⟩) k cap)).run Tryz.prog w=.ok (.string (strOfNums xs)) w:=by
  have hl:=h.1
  rcases h.2 with ⟨_,h'⟩ | ⟨g,cap,cur,rfl,_⟩
  · omega
  · refine ⟨g,cap,rfl,run_convert_bytes_arg w 114 5 Tryz.underlying114 Tryz.underlying5 g 0 k cap xs (by simpa using hl) (fun i hi => ?_) 9 Tryz.underlying9⟩
    rw [Nat.zero_add,h.cellAt i (by omega)]
    have hi':i < xs.length:=by simp at hl;omega
    simp [List.getElem?_eq_getElem hi']
theorem rput_any (n:Int) (k:Nat) (w:World) (hk1:1≤k) (hk8:k≤8) (_:0≤n) (h1:n < 18446744073709551616) :
    Calls Tryz.prog 44 #[.int .u64 n,.int .i64 k] w fun e w'=>e=.returned (.string (pb n k))∧Below w.heap.size w w':=by
  obtain ⟨i0,hi,hz0,hz1,hz2⟩:=info_parts infoB
  have H1:Hid (n < 18446744073709551616):=h1
  clear h1
  go_enter Tryz.func44,Tryz.ntmps44
  go_wp2
  go_loopw [5,6] (fun v i wr=>∃ j:Nat,j≤k∧i=.int .i64 ((k:Int) - 1 - j)∧wr.ownsRow w.heap.size 5 1 v j (((pieces n k).take j).map (Value.int .u8))∧Below w.heap.size w wr)
    (fun _ i _=>(1 + intOf i).toNat)
  case atStart=>exact ⟨0,Nat.zero_le _,by simp,World.ownsRow_nil _ _ _ _,Below.refl _ _⟩
  case round =>
    obtain ⟨j,hj,rfl,hown,hbel⟩:=hrel
    by_cases hlt:j < k
    · go_wp2_with (at_builtin;refine wpList_append_own _ rfl _ _ 114 rfl (w.heap.size) 5 i0 (.int .u8 0) 1 1 Tryz.underlying114 hi hz0 hz1 hz2 rfl (by decide) _ _ _ rfl (hown.alloc _) ⟨wr.heap.size,0,none⟩ 1 1 [.int .u8 (n / 2 ^ (8 * (k - 1 - j)) % 256)] rfl rfl ?c1 ?c2 ?c3 ?c4 ?c5 ?_)
      case c1 =>
        intro j u hj
        match j,hj with
        | 0,hj=>simp at hj;subst hj;simp [Addr.add]
      case c2=>intro u hu;simp at hu;subst hu;rfl
      case c3=>unfold maxLen;omega
      case c4=>omega
      case c5=>have:=hbel.size;simp;omega
      · intro v' w1 hown' hgrow _
        have R1:w1.ownsRow w.heap.size 5 1 v' (j + 1) (((pieces n k).take (j + 1)).map (Value.int .u8)):=by
          rw [pieces_take k n j hlt]
          simpa using hown'
        have R2:Below w.heap.size w w1:=(hbel.alloc hbel.size _).grown hgrow (by have:=hbel.size;simp;omega) (fun q hq=>(hown.lt q hq).1)
        clear hown' hgrow hown hbel
        go_wp2
        go_roundw
        case rel=>exact ⟨j + 1,by omega,by go_num,R1,R2⟩
        case measure=>simp [intOf];omega
    · obtain rfl:j=k:=by omega
      rw [List.take_of_length_le (by rw [pieces_length];exact Nat.le_refl _)] at hown
      obtain ⟨g,cap,rfl,hcv⟩:=cv_own wr _ _ _ _ hk1 hown
      clear hown
      go_wp2
      go_ret
      exact ⟨rfl,hbel⟩
theorem rsize_any (f:Int) (w:World):Calls Tryz.prog 92 #[.int .i64 f] w fun e w'=>e=.returned (.int .i64 (szV f))∧Below w.heap.size w w':=by
 have HW:Hid (∀ w,Calls Tryz.prog 109 #[.int .i64 f] w fun e w'=>e=.returned (.int .i64 (wdV f))∧Below w.heap.size w w'):=fun w=>rwidth_any f w
 have h:=szV_eq f
 have hb:0≤wdV f∧wdV f≤64:=by unfold wdV;(repeat' split) <;> omega
 rw [← h]
 clear h
 generalize wdV f=y at *
 obtain ⟨b0,b1⟩:=hb
 go_enter Tryz.func92,Tryz.ntmps92
 go_wp2_with fail
 refine (HW.out _).mono ?_
 rintro x w1 ⟨rfl,g1⟩
 go_wp2_with fail
 go_ret
 exact ⟨ret_int (by first | rfl | omega),g1⟩
def rcode0 (f:Int):Int:=if f=1 then 0 else if f=2 then 2 else if f=3 then 6 else if f=4 then 5 else if f=5 then 11 else if f=6 then 12 else if f=7 then 10 else if f=8 then 13 else 14
def rcodeV (f:Int) (l:List T):Int:=if 8≤f∧(wholeV l 7).getD 0=17 then rcode0 f + 2 else rcode0 f
theorem rcode_any (f:Int) (a:Option Addr) (l:List T) (cap:Nat) (w:World) (h:Ts w a l) (hl:l.length≤100000) (hf : ¬ (f < 1∨9 < f)) :
    Calls Tryz.prog 111 #[.slice a l.length cap,.int .i64 f] w fun e w'=>e=.returned (.int .i64 (rcodeV f l))∧Below w.heap.size w w':=by
  have HH:Hid (∀ w,Ts w a l→Calls Tryz.prog 110 #[.slice a l.length cap,.int .i64 7,.int .i64 l.length] w fun e w'=>e=.returned (.tuple #[.int .u64 ((wholeV l 7).getD 0),.bool (wholeV l 7).isSome])∧Below w.heap.size w w'):=fun w h=>by
    have:=rwhole_any a l cap 7 l.length w h hl (Nat.le_refl _)
    rwa [List.take_length] at this
  unfold rcodeV
  generalize (wholeV l 7).getD 0=v at *
  generalize (wholeV l 7).isSome=i at *
  rcases cls9 hf with rfl | rfl | rfl | rfl | rfl | rfl | rfl | rfl | rfl
  all_goals
    clear hf
    cases h17:(v == 17)
    all_goals
      have e17:=h17
      first
      | (rw [beq_iff_eq] at e17)
      | (rw [beq_eq_false_iff_ne] at e17)
      go_enter Tryz.func111,Tryz.ntmps111
      go_wp2_with fail
      refine (HH.out _ (h.alloc _)).mono ?_
      rintro x w1 ⟨rfl,g1⟩
      go_wp2_with fail
      go_ret
      exact ⟨ret_int (by simp [rcode0,e17]),btr (by go_grown) g1 (by simp)⟩
theorem rcode_eq (l:List T) (k:Nat) (hk:k < l.length) (hr:Rises l) (hF:Fit l[k] (l.take k)):rcodeV l[k].1 l=codeV l[k].1 (l.take k):=by
  obtain ⟨hf,_,_,hs⟩:=hF
  have up:∀ t:T,hasT (l.take k) t=true→hasT l t=true:=fun t h=>(hasT_iff l t).2 (List.mem_of_mem_take ((hasT_iff _ t).1 h))
  generalize l[k].1=f at *
  rcases cls9 hf with rfl | rfl | rfl | rfl | rfl | rfl | rfl | rfl | rfl
  case inr.inr.inr.inr.inr.inr.inr.inl =>
    unfold standB at hs
    rw [if_neg (by omega),if_pos (by omega),Bool.or_eq_true] at hs
    cases h6:hasT (l.take k) (7,6,255) with
    | true =>
      have:=(whole_has l hr 7 6 (7,6,255) rfl).1 (up _ h6)
      simp [rcodeV,codeV,rcode0,this,h6]
    | false =>
      have h17:hasT (l.take k) (7,17,255)=true:=by
        rcases hs with h | h
        · rw [h6] at h;cases h
        · exact h
      have:=(whole_has l hr 7 17 (7,17,255) rfl).1 (up _ h17)
      simp [rcodeV,codeV,rcode0,this,h6,h17]
  case inr.inr.inr.inr.inr.inr.inr.inr =>
    unfold standB at hs
    rw [if_neg (by omega),if_pos (by omega),Bool.or_eq_true] at hs
    cases h6:hasT (l.take k) (7,6,255) with
    | true =>
      have:=(whole_has l hr 7 6 (7,6,255) rfl).1 (up _ h6)
      simp [rcodeV,codeV,rcode0,this,h6]
    | false =>
      have h17:hasT (l.take k) (7,17,255)=true:=by
        rcases hs with h | h
        · rw [h6] at h;cases h
        · exact h
      have:=(whole_has l hr 7 17 (7,17,255) rfl).1 (up _ h17)
      simp [rcodeV,codeV,rcode0,this,h6,h17]
  all_goals simp [rcodeV,codeV,rcode0]
abbrev SW (W:World) (b:Nat) (t:T) (w:World):Prop:=(w.cell? ⟨b,0,none⟩=some (.int .i64 t.1)∧w.cell? ⟨b,1,none⟩=some (.int .u64 t.2.1)∧w.cell? ⟨b,2,none⟩=some (.int .u64 t.2.2))∧Below W.heap.size W w
theorem SW.of {W:World} {b:Nat} {t:T} (h:C3 W b 0 t) (hb:b < W.heap.size) {w:World} (g:Below W.heap.size W w):SW W b t w:=⟨C3.below h hb g,g⟩
theorem SW.drew {W:World} {b:Nat} {t:T} (h:C3 W b 0 t) (hb:b < W.heap.size):SW W b t W.drew:=SW.of h hb (Below.refl _ W).drew
theorem SW.alloc {W:World} {b:Nat} {t:T} (hb:b < W.heap.size) {w:World} (s:SW W b t w) (o:Obj):SW W b t (w.alloc o):=by
 obtain ⟨c,g⟩:=s
 exact ⟨C3.below (t:=t) (o:=0) c (Nat.lt_of_lt_of_le hb g.size) (show Below w.heap.size w (w.alloc o) by go_grown),btr g (by go_grown) (Nat.le_refl _)⟩
theorem SW.call {W:World} {b:Nat} {t:T} (hb:b < W.heap.size) {w w':World} (s:SW W b t w) (k:Below w.heap.size w w'):SW W b t w':=by
 obtain ⟨c,g⟩:=s
 exact ⟨C3.below (t:=t) (o:=0) c (Nat.lt_of_lt_of_le hb g.size) k,btr g k (Nat.le_refl _)⟩
structure Two (w:World) (n:Nat) (a b:Value):Prop where
 l:n < w.heap.size
 c0:w.cell? ⟨n,0,none⟩=some a
 c1:w.cell? ⟨n,1,none⟩=some b
theorem Two.new (X:World) (a b:Value):Two (X.alloc (.cells #[a,b] 5)) X.heap.size a b:=⟨by simp,by simp,by simp⟩
theorem Two.keep {w w':World} {n:Nat} {a b:Value} (h:Two w n a b) (g:Below w.heap.size w w'):Two w' n a b :=
 ⟨Nat.lt_of_lt_of_le h.l g.size,(g.cell (p:=⟨n,0,none⟩) h.l).trans h.c0,(g.cell (p:=⟨n,1,none⟩) h.l).trans h.c1⟩
theorem cvTwo (w:World) (n:Nat) (x y:Int) (h:Two w n (.int .u8 x) (.int .u8 y)):(convert 114 9 (.slice (some ⟨n,0,none⟩) 2 2)).run Tryz.prog w=.ok (.string (strOfNums [x,y])) w:=by
 refine run_convert_bytes_arg w 114 5 Tryz.underlying114 Tryz.underlying5 n 0 2 2 [x,y] rfl (fun i hi => ?_) 9 Tryz.underlying9
 match i,hi with
 | 0,_=>simpa using h.c0
 | 1,_=>simpa using h.c1
theorem pb1 (n:Int) (h0:0≤n) (h1:n < 256):pb n 1=strOfNums [n]:=by
 unfold pb
 simp only [pieces,List.nil_append]
 rw [Int.emod_eq_of_lt h0 h1]
theorem str_two (a b:Int):strOfNums [a,b]=strOfNums [a] ++ strOfNums [b]:=by apply ba_ext;simp [strOfNums]
theorem pb_class:pb 32768 2=⟨#[128,0]⟩:=by decide +kernel
theorem encT_w {t:T} {l:List T} (h:wholeB t=true) (s:ByteArray):s ++ ⟨#[128,0]⟩ ++ strOfNums [2 * codeV t.1 l,(szV t.1:Int)] ++ pb t.2.1 (szV t.1)=s ++ encT t l:=by
 obtain ⟨k0,k1⟩:=codeV_lt t.1 l
 have hz:=szV_le t.1
 have er:restT t=pb t.2.1 (szV t.1):=by unfold restT;rw [h];rfl
 have eh:headT t l=2 * codeV t.1 l:=by unfold headT;rw [h];rfl
 unfold encT
 rw [er,eh,pb_size,pb_class,pb1 _ (by omega) (by omega),pb1 _ (by omega) (by omega),str_two]
 simp only [ap_assoc]
theorem encT_m {t:T} {l:List T} (h:wholeB t=false) (s:ByteArray):s ++ ⟨#[128,0]⟩ ++ strOfNums [2 * codeV t.1 l + 1,2 * (szV t.1:Int)] ++ pb t.2.1 (szV t.1) ++ pb t.2.2 (szV t.1)=s ++ encT t l:=by
 obtain ⟨k0,k1⟩:=codeV_lt t.1 l
 have hz:=szV_le t.1
 have er:restT t=pb t.2.1 (szV t.1) ++ pb t.2.2 (szV t.1):=by unfold restT;rw [h];rfl
 have eh:headT t l=2 * codeV t.1 l + 1:=by unfold headT;rw [h];rfl
 have es:((restT t).size:Int)=2 * (szV t.1:Int):=by rw [er,ByteArray.size_append,pb_size,pb_size];omega
 unfold encT
 rw [es,er,eh,pb_class,pb1 _ (by omega) (by omega),pb1 _ (by omega) (by omega),str_two]
 simp only [ap_assoc]
theorem pb_one:pb 1 2=⟨#[0,1]⟩:=by decide +kernel
def strSize:Value→Nat
 | .string q=>q.size
 | _=>0
theorem zsz (n:Nat):(zeros n).size=n:=by unfold zeros;simp [ByteArray.size]
theorem cat (a b:ByteArray) (x y:Nat) (ha:a.size≤x) (hb:b.size≤y) (h:x + y≤9223372036854775807) (w:World):(Op.stringOp .add a b).run Tryz.prog w=.ok (.string (a ++ b)) w:=run_string_add_sum w a b (by omega)
theorem cat_sz (a b:ByteArray) (x y:Nat) (ha:a.size≤x) (hb:b.size≤y):(a ++ b).size≤x + y:=by rw [ByteArray.size_append];omega
theorem rbytes_any (a:Option Addr) (l:List T) (cap:Nat) (w:World) (h:Ts w a l) (hl:l.length≤100000) (hw:TWs l) (hr:rightE l=0) :
    Calls Tryz.prog 78 #[.slice a l.length cap] w fun e w'=>e=.returned (.string (encS l))∧Below w.heap.size w w':=by
  have HC:Hid (∀ f w,¬ (f < 1∨9 < f)→Ts w a l→Calls Tryz.prog 111 #[.slice a l.length cap,.int .i64 f] w fun e w'=>e=.returned (.int .i64 (rcodeV f l))∧Below w.heap.size w w'):=fun f w hf h=>rcode_any f a l cap w h hl hf
  have HS:Hid (∀ f w,Calls Tryz.prog 92 #[.int .i64 f] w fun e w'=>e=.returned (.int .i64 (szV f))∧Below w.heap.size w w'):=fun f w=>rsize_any f w
  have HA:Hid (∀ f w,Calls Tryz.prog 93 #[.int .i64 f] w fun e w'=>e=.returned (.int .u64 (grV f))∧Below w.heap.size w w'):=fun f w=>rall_any f w
  have HP:Hid (∀ n k w,1≤k→k≤8→0≤n→n < 18446744073709551616→Calls Tryz.prog 44 #[.int .u64 n,.int .i64 (k:Nat)] w fun e w'=>e=.returned (.string (pb n k))∧Below w.heap.size w w'):=fun n k w h1 h8 h0 h2=>rput_any n k w h1 h8 h0 h2
  have hps:=pb_size
  have hlen:=right_short l hr
  have hris:Rises l:=by simpa using (right_rises l [] hr (by simp [Rises]) (by simp)).1
  go_enter Tryz.func78,Tryz.ntmps78
  go_wp2_with fail
  go_loopw [3,4] (fun v i wr=>∃ (k:Nat) (s:ByteArray),k≤l.length∧i=.int .i64 k∧v=.string s∧bodyGo [] l=s ++ bodyGo (l.take k) (l.drop k)∧rightGo (l.take k) (l.drop k)=0∧s.size≤20 * k∧Below w.heap.size w wr) (fun _ i _=>l.length - (intOf i).toNat)
  case atStart=>exact ⟨0,⟨#[]⟩,by omega,rfl,rfl,by apply ba_ext;simp,hr,by simp [ByteArray.size],Below.refl _ _⟩
  case round =>
    obtain ⟨k,s,hk,rfl,rfl,hbody,hgo,hsz,hbel⟩:=hrel
    by_cases hlt:k < l.length
    · have hT:=h.below hbel
      obtain ⟨g,o,rfl,hg,hcs⟩:=hT.at hlt
      obtain ⟨c0,c1,c2⟩:=hcs k hlt
      obtain ⟨hbe,hgo2⟩:=right_at l k hlt hgo
      have hF:=fit_of hbe
      have hwt:=hw l[k] (List.getElem_mem hlt)
      obtain ⟨n0,n1,n2⟩:=fit_num hF hwt
      have hz1:=szV_pos hF.fld
      have hz8:=szV_le l[k].1
      have hce:=rcode_eq l k hlt hris hF
      have hes:=encT_size l[k] (l.take k)
      obtain ⟨k0,k1⟩:=codeV_lt l[k].1 (l.take k)
      have HB1:Hid (bodyGo [] l=s ++ encT l[k] (l.take k) ++ bodyGo (l.take (k + 1)) (l.drop (k + 1))):=(show _=_ by rw [hbody,bodyGo_at l k hlt,ap_assoc])
      have hTn:∀ X,Below (tx wr l[k]).heap.size (tx wr l[k]) X→Ts X (some ⟨g,o,none⟩) l:=fun X g=>(hT.alloc _).below g
      replace hTn:Hid _:=hTn
      clear hbody hgo
      go_wp2_with fail
      refine (HS.out _ _).mono ?_
      rintro x w1 ⟨rfl,g1⟩
      have k1':=(C3.new wr l[k]).below (by simp) g1
      have s1:=Nat.lt_of_lt_of_le (show wr.heap.size < (tx wr l[k]).heap.size by simp) g1.size
      have q:=C3.gr k1' s1
      have q0:=fun n=>(q n).1
      have q2:=fun n=>(q n).2.2
      clear q
      go_wp2_with fail
      refine wp_region_grow (by kernel_rfl) (by kernel_rfl) ?_
      repeat (go_big_quiet_step (first | (go_at_call 93;exact quiet_gr (HA.out _ _))))
      refine wpQuiet_nil ?_
      rintro w2 hw'
      have g2:=btr g1 (gr_elim hw') (Nat.le_refl _)
      clear hw' q0 q2 k1' s1
      have k2:=(C3.new wr l[k]).below (by simp) g2
      have s2:=Nat.lt_of_lt_of_le (show wr.heap.size < (tx wr l[k]).heap.size by simp) g2.size
      cases hwb:(l[k].2.2 == grV l[k].1)
      · have hwh:wholeB l[k]=false:=hwb
        have HEN:Hid (s ++ encT l[k] (l.take k)=s ++ ⟨#[128,0]⟩ ++ (strOfNums [2 * codeV l[k].1 (l.take k) + 1,2 * (szV l[k].1:Int)]) ++ (pb l[k].2.1 (szV l[k].1)) ++ (pb l[k].2.2 (szV l[k].1))):=(show _=_ from (encT_m hwh s).symm)
        have hcf : ¬ (l[k].1 < 1∨9 < l[k].1):=hF.fld
        have hs1:(s.size:Int)≤180:=by omega
        clear hF hwh hbe
        generalize codeV l[k].1 (l.take k)=c at *
        generalize szV l[k].1=n at *
        have hcv:=cv2
        have hw1:IntKind.i64.wrap (2 * c)=2 * c:=by rw [IntKind.wrap_i64];omega
        have hw4:IntKind.i64.wrap (2 * c + 1)=2 * c + 1:=by rw [IntKind.wrap_i64];omega
        have hw2:IntKind.u8.wrap (2 * c + 1)=2 * c + 1:=by rw [IntKind.wrap_u8];omega
        have hw5:IntKind.i64.wrap (2 * (n:Int))=2 * (n:Int):=by rw [IntKind.wrap_i64];omega
        have hw3:IntKind.u8.wrap (2 * (n:Int))=2 * (n:Int):=by rw [IntKind.wrap_u8];omega
        have z0:(s ++ (⟨#[128,0]⟩:ByteArray)).size≤182:=cat_sz _ _ 180 2 (by omega) (by decide)
        have z1:(strOfNums [2 * c + 1,2 * (n:Int)]).size≤2:=by rw [strOfNums_size];simp
        have z2:(s ++ (⟨#[128,0]⟩:ByteArray) ++ (strOfNums [2 * c + 1,2 * (n:Int)])).size≤184:=cat_sz _ _ 182 2 z0 z1
        have z3:(pb l[k].2.1 n).size≤8:=by rw [pb_size];exact hz8
        have e1:∀ w,(Op.stringOp .add s ⟨#[128,0]⟩).run Tryz.prog w=.ok (.string (s ++ ⟨#[128,0]⟩)) w:=cat _ _ 180 2 (by omega) (by decide) (by decide)
        have e2:∀ w,(Op.stringOp .add (s ++ ⟨#[128,0]⟩) (strOfNums [2 * c + 1,2 * (n:Int)])).run Tryz.prog w=.ok (.string (s ++ ⟨#[128,0]⟩ ++ (strOfNums [2 * c + 1,2 * (n:Int)]))) w:=cat _ _ 182 2 z0 z1 (by decide)
        have e3:∀ w,(Op.stringOp .add (s ++ ⟨#[128,0]⟩ ++ (strOfNums [2 * c + 1,2 * (n:Int)])) (pb l[k].2.1 n)).run Tryz.prog w=.ok (.string (s ++ ⟨#[128,0]⟩ ++ (strOfNums [2 * c + 1,2 * (n:Int)]) ++ (pb l[k].2.1 n))) w:=cat _ _ 184 8 z2 z3 (by decide)
        have z4:(s ++ (⟨#[128,0]⟩:ByteArray) ++ (strOfNums [2 * c + 1,2 * (n:Int)]) ++ (pb l[k].2.1 n)).size≤192:=cat_sz _ _ 184 8 z2 z3
        have z5:(pb l[k].2.2 n).size≤8:=by rw [pb_size];exact hz8
        have e4:∀ w,(Op.stringOp .add (s ++ ⟨#[128,0]⟩ ++ (strOfNums [2 * c + 1,2 * (n:Int)]) ++ (pb l[k].2.1 n)) (pb l[k].2.2 n)).run Tryz.prog w=.ok (.string (s ++ ⟨#[128,0]⟩ ++ (strOfNums [2 * c + 1,2 * (n:Int)]) ++ (pb l[k].2.1 n) ++ (pb l[k].2.2 n))) w:=cat _ _ 192 8 z4 z5 (by decide)
        clear z0 z1 z2 z3 z4 z5
        have hSB:Hid (∀ X,SW w2 wr.heap.size l[k] X→Below w.heap.size w X):=fun X q=>btr (hbel.alloc hbel.size _) (btr g2 q.2 (Nat.le_refl _)) (Nat.le_refl _)
        have hTS:Hid (∀ X,SW w2 wr.heap.size l[k] X→Ts X (some ⟨g,o,none⟩) l):=fun X q=>hTn.out X (btr g2 q.2 (Nat.le_refl _))
        go_wp2_with fail
        go_region_held (SW w2 wr.heap.size l[k]) (first | exact SW.drew k2 s2 | exact SW.alloc s2 (by assumption) _ | exact SW.call s2 (by assumption) (by assumption) | assumption)
          (first | (go_at_call 111;refine (HC.out _ _ hcf (hTS.out _ (by assumption))).mono ?_;rintro x w' ⟨rfl,gX⟩;first | (have tw:=Two.keep (by assumption) gX;have ce:=cvTwo _ _ _ _ tw) | skip) | (go_at_call 44;refine (HP.out _ _ _ hz1 hz8 (by first | exact hwt.v0 | exact hwt.m0) (by first | exact hwt.v1 | exact hwt.m1)).mono ?_;rintro x w' ⟨rfl,gX⟩;first | (have tw:=Two.keep (by assumption) gX;have ce:=cvTwo _ _ _ _ tw) | (have tw:=Two.keep (Two.new _ _ _) gX;have ce:=cvTwo _ _ _ _ tw) | skip))
        all_goals
          go_wp2
          go_roundw
          case rel=>exact ⟨k + 1,_,by omega,by go_num,rfl,by rw [← HEN.out];exact HB1.out,hgo2,by rw [← HEN.out,ByteArray.size_append];omega,hSB.out _ (by assumption)⟩
          case measure=>simp [intOf];omega
      · have hwh:wholeB l[k]=true:=hwb
        have HEN:Hid (s ++ encT l[k] (l.take k)=s ++ ⟨#[128,0]⟩ ++ (strOfNums [2 * codeV l[k].1 (l.take k),(szV l[k].1:Int)]) ++ (pb l[k].2.1 (szV l[k].1))):=(show _=_ from (encT_w hwh s).symm)
        have hcf : ¬ (l[k].1 < 1∨9 < l[k].1):=hF.fld
        have hs1:(s.size:Int)≤180:=by omega
        clear hF hwh hbe
        generalize codeV l[k].1 (l.take k)=c at *
        generalize szV l[k].1=n at *
        have hcv:=cv2
        have hw1:IntKind.i64.wrap (2 * c)=2 * c:=by rw [IntKind.wrap_i64];omega
        have hw2:IntKind.u8.wrap (2 * c)=2 * c:=by rw [IntKind.wrap_u8];omega
        have hw3:IntKind.u8.wrap (n:Int)=(n:Int):=by rw [IntKind.wrap_u8];omega
        have z0:(s ++ (⟨#[128,0]⟩:ByteArray)).size≤182:=cat_sz _ _ 180 2 (by omega) (by decide)
        have z1:(strOfNums [2 * c,(n:Int)]).size≤2:=by rw [strOfNums_size];simp
        have z2:(s ++ (⟨#[128,0]⟩:ByteArray) ++ (strOfNums [2 * c,(n:Int)])).size≤184:=cat_sz _ _ 182 2 z0 z1
        have z3:(pb l[k].2.1 n).size≤8:=by rw [pb_size];exact hz8
        have e1:∀ w,(Op.stringOp .add s ⟨#[128,0]⟩).run Tryz.prog w=.ok (.string (s ++ ⟨#[128,0]⟩)) w:=cat _ _ 180 2 (by omega) (by decide) (by decide)
        have e2:∀ w,(Op.stringOp .add (s ++ ⟨#[128,0]⟩) (strOfNums [2 * c,(n:Int)])).run Tryz.prog w=.ok (.string (s ++ ⟨#[128,0]⟩ ++ (strOfNums [2 * c,(n:Int)]))) w:=cat _ _ 182 2 z0 z1 (by decide)
        have e3:∀ w,(Op.stringOp .add (s ++ ⟨#[128,0]⟩ ++ (strOfNums [2 * c,(n:Int)])) (pb l[k].2.1 n)).run Tryz.prog w=.ok (.string (s ++ ⟨#[128,0]⟩ ++ (strOfNums [2 * c,(n:Int)]) ++ (pb l[k].2.1 n))) w:=cat _ _ 184 8 z2 z3 (by decide)
        clear z0 z1 z2 z3
        have hSB:Hid (∀ X,SW w2 wr.heap.size l[k] X→Below w.heap.size w X):=fun X q=>btr (hbel.alloc hbel.size _) (btr g2 q.2 (Nat.le_refl _)) (Nat.le_refl _)
        have hTS:Hid (∀ X,SW w2 wr.heap.size l[k] X→Ts X (some ⟨g,o,none⟩) l):=fun X q=>hTn.out X (btr g2 q.2 (Nat.le_refl _))
        go_wp2_with fail
        go_region_held (SW w2 wr.heap.size l[k]) (first | exact SW.drew k2 s2 | exact SW.alloc s2 (by assumption) _ | exact SW.call s2 (by assumption) (by assumption) | assumption)
          (first | (go_at_call 111;refine (HC.out _ _ hcf (hTS.out _ (by assumption))).mono ?_;rintro x w' ⟨rfl,gX⟩;first | (have tw:=Two.keep (by assumption) gX;have ce:=cvTwo _ _ _ _ tw) | skip) | (go_at_call 44;refine (HP.out _ _ _ hz1 hz8 hwt.v0 hwt.v1).mono ?_;rintro x w' ⟨rfl,gX⟩;first | (have tw:=Two.keep (by assumption) gX;have ce:=cvTwo _ _ _ _ tw) | (have tw:=Two.keep (Two.new _ _ _) gX;have ce:=cvTwo _ _ _ _ tw) | skip))
        all_goals
          go_wp2
          go_roundw
          case rel=>exact ⟨k + 1,_,by omega,by go_num,rfl,by rw [← HEN.out];exact HB1.out,hgo2,by rw [← HEN.out,ByteArray.size_append];omega,hSB.out _ (by assumption)⟩
          case measure=>simp [intOf];omega
    · have hk':k=l.length:=by omega
      subst hk'
      have e:bodyGo [] l=s:=by
        rw [hbody,List.drop_length,bodyGo]
        apply ba_ext;simp
      have hs180:s.size≤180:=by omega
      have hpv:0≤padV (4 + s.size) - (4 + s.size)∧padV (4 + s.size) - (4 + s.size)≤7:=by unfold padV;omega
      have hp8:padV (4 + s.size) % 8=0:=by unfold padV;omega
      have HE:Hid (encS l=⟨#[0,1]⟩ ++ pb (4 + s.size) 2 ++ s ++ zeros (padV (4 + s.size) - (4 + s.size)).toNat):=(show _=_ by unfold encS;rw [e,pb_one])
      obtain ⟨c,hcc⟩:=Int.eq_ofNat_of_zero_le hpv.1
      rw [hcc,Int.toNat_natCast] at HE
      have hpe:padV (4 + s.size)=4 + s.size + c:=by omega
      rw [hpe] at hp8
      have hc7:c≤7:=by omega
      clear hbody hgo e hpv hpe hcc
      go_wp2_with fail
      refine (HP.out _ 2 _ (by omega) (by omega) (by omega) (by omega)).mono ?_
      rintro x w1 ⟨rfl,g1⟩
      have b1:=btr hbel g1 (Nat.le_refl _)
      have hE0:((⟨#[0,1]⟩:ByteArray) ++ pb (4 + s.size) 2 ++ s).size=4 + s.size:=by
        rw [ByteArray.size_append,ByteArray.size_append,pb_size];rfl
      clear g1
      go_wp2_with fail
      generalize (⟨#[0,1]⟩:ByteArray) ++ pb (4 + s.size) 2 ++ s=E0 at *
      go_loopw [3] (fun v wx=>∃ j:Nat,j≤c∧v=.string (E0 ++ zeros j)∧Below w.heap.size w wx) (fun v _=>300 - strSize v)
      case atStart=>exact ⟨0,by omega,by congr 1;apply ba_ext;simp [zeros],b1⟩
      case round =>
        obtain ⟨j,hj,rfl,hbx⟩:=hrel
        have hzs:=zsz j
        have hsj:(E0 ++ zeros j).size=4 + s.size + j:=by rw [ByteArray.size_append,hE0,hzs]
        by_cases hjc:j < c
        · have hm:((4 + (s.size:Int) + j) % 8 != 0)=true:=by simp;omega
          have hcat:E0 ++ zeros j ++ ⟨#[0]⟩=E0 ++ zeros (j + 1):=by
            rw [ap_assoc]
            congr 1
            apply ba_ext
            simp [zeros,List.replicate_succ']
          have HC2:Hid _:=hcat
          clear hcat
          generalize E0 ++ zeros j=Z at *
          go_wp2_with fail
          go_roundw
          case rel=>exact ⟨j + 1,by omega,by rw [HC2.out],hbx⟩
          case measure =>
            simp only [strSize,ByteArray.size_append]
            have:(⟨#[0]⟩:ByteArray).size=1:=rfl
            omega
        · have hjc':j=c:=by omega
          subst hjc'
          have hm:((4 + (s.size:Int) + j) % 8 != 0)=false:=by simp;omega
          have HE2:Hid (encS l=E0 ++ zeros j):=HE.out
          clear HE
          generalize E0 ++ zeros j=Z at *
          go_wp2_with fail
          go_ret
          exact ⟨by rw [HE2.out];rfl,hbx⟩
theorem rright0 (a:Option Addr) (l:List T) (cap:Nat) (w:World) (h:Ts w a l) (hl:l.length≤100000) (hw:TWs l) :
    Calls Tryz.prog 77 #[.slice a l.length cap] w fun e w'=>e=.returned (.int .i64 (rightE l))∧Below w.heap.size w w':=by
  have:=rright_any a l cap w h hl
  rwa [rright_eq l [] hw (by simp [Rises])] at this
theorem rencode_any (a:Option Addr) (l:List T) (cap:Nat) (w:World) (h:Ts w a l) (hl:l.length≤100000) (hw:TWs l) :
    Calls Tryz.prog 41 #[.slice a l.length cap] w fun e w'=>e=.returned (.tuple #[.string (encodeS l),.int .i64 (rightE l)])∧Below w.heap.size w w':=by
  have HR:Hid (Calls Tryz.prog 77 #[.slice a l.length cap] w fun e w'=>e=.returned (.int .i64 (rightE l))∧Below w.heap.size w w'):=rright0 a l cap w h hl hw
  unfold encodeS
  by_cases hr:rightE l=0
  · rw [if_pos hr]
    have HB:Hid (∀ w,Ts w a l→Calls Tryz.prog 78 #[.slice a l.length cap] w fun e w'=>e=.returned (.string (encS l))∧Below w.heap.size w w'):=fun w h=>rbytes_any a l cap w h hl hw hr
    rw [hr] at HR
    rw [hr]
    clear hr
    generalize encS l=E at *
    go_enter Tryz.func41,Tryz.ntmps41
    go_wp2_with fail
    refine HR.out.mono ?_
    rintro x w1 ⟨rfl,g1⟩
    go_wp2_with fail
    refine (HB.out _ (h.below g1)).mono ?_
    rintro x w2 ⟨rfl,g2⟩
    go_wp2_with fail
    go_ret2
    exact ⟨rfl,btr g1 g2 (Nat.le_refl _)⟩
  · rw [if_neg hr]
    have hb:(rightE l != 0)=true:=by simpa using hr
    clear hr
    generalize rightE l=R at *
    go_enter Tryz.func41,Tryz.ntmps41
    go_wp2_with fail
    refine HR.out.mono ?_
    rintro x w1 ⟨rfl,g1⟩
    go_wp2_with fail
    go_ret2
    exact ⟨rfl,g1⟩
end Go.Proofs.YtlcbfdiohcbpbaaGreatDoor.Mt

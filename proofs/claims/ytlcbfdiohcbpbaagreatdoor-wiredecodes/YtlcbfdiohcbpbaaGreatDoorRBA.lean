import Derived.Test.YtlcbfdiohcbpbaaGreatDoorRBn
import Derived.Test.YtlcbfdiohcbpbaaGreatDoorRB1
import Derived.Test.YtlcbfdiohcbpbaaGreatDoorRB2
import Derived.Test.YtlcbfdiohcbpbaaGreatDoorRB12
import Derived.Test.YtlcbfdiohcbpbaaGreatDoorRB13
import Derived.Test.YtlcbfdiohcbpbaaGreatDoorRB14t
import Derived.Test.YtlcbfdiohcbpbaaGreatDoorRB14f
import Derived.Test.YtlcbfdiohcbpbaaGreatDoorRB15
import Derived.Test.YtlcbfdiohcbpbaaGreatDoorRB29
namespace Go.Proofs.YtlcbfdiohcbpbaaGreatDoor
open Go.ChangeShapes Go.WideShapes Go.ChangeAt Go.RowKit
set_option linter.unusedVariables false
set_option linter.unusedSimpArgs false
def ownS (m:Ms):Ms :=
 if m.kind=1 then own1 m else if m.kind=2∨m.kind=3 then own2 m else if m.kind=12 then own12 m m.live else if m.kind=13 then own13 m
 else if m.kind=14 then own14 m m.chk else if m.kind=15 then own15 m else if m.kind=29 then own29 m else own0 m
abbrev RBp (m:Ms) (w:World) (e:Ending) (w':World):Prop:=∃ s,e=.returned (.tuple #[.string s,msV (ownS m),.bool (ownB m.msg)])∧(ownB m.msg=true→s=bodyM m.msg)∧Below w.heap.size w w'
theorem dec_nat (n k:Nat):decide ((n:Int)≤(k:Int))=decide (n≤k):=by
 by_cases h:n≤k
 ·rw [decide_eq_true h,decide_eq_true (by omega)]
 ·rw [decide_eq_false h,decide_eq_false (by omega)]
theorem most32 (l:List A):mostA l 32=okA l:=by
  unfold mostA
  cases h:okA l with
  | false=>rfl
  | true =>
    obtain ⟨_,h2,_⟩:=okA_few h
    rw [decide_eq_true (by omega)];rfl
theorem rb_of {m o:Ms} {ok:Bool} {s:ByteArray} {w:World} (h:Calls Tryz.prog 19 #[msV m] w fun e w'=>e=.returned (.tuple #[.string s,msV o,.bool ok])∧Below w.heap.size w w') (ho:ownS m=o) (hk:ownB m.msg=ok) (hs:ok=true→s=bodyM m.msg):Calls Tryz.prog 19 #[msV m] w (RBp m w) :=
 h.mono fun _ _ ⟨h1,h2⟩=>⟨s,by rw [ho,hk];exact h1,fun h=>hs (hk ▸ h),h2⟩
theorem kf_of (k:Int) (n:Int) (h:k≠n):(k == n)=false:=by rw [beq_eq_false_iff_ne];exact h
theorem kt_of (k:Int) (n:Int) (h:k=n):(k == n)=true:=by simp [h]
theorem ba_pre (X Y Z W:ByteArray) (h:Y ++ Z=W):X ++ Y ++ Z=X ++ W:=by rw [ap_assoc,h]
theorem rbA_1 (m:Ms) (w:World) (mw:MW w m) (k:m.kind=1):Calls Tryz.prog 19 #[msV m] w (RBp m w):=by
 have eo:ownS m=own1 m:=by unfold ownS;rw [if_pos k]
 have ek:ownB m.msg=(inB m.typ 0 65535 && inB m.cod 0 65535 && decide (m.dat.size≤64)):=by unfold ownB;simp [Ms.msg,k]
 have eb:bodyM m.msg=pb m.typ 2 ++ pb m.cod 2 ++ m.dat:=by unfold bodyM;simp [Ms.msg,k]
 have k0:=kf_of m.kind 0 (by omega)
 have k20:=kf_of m.kind 20 (by omega)
 have k21:=kf_of m.kind 21 (by omega)
 have k1:=kt_of m.kind 1 k
 refine rb_of (rb1 m w mw.d k0 k20 k21 k1) eo (by rw [ek,← dec_nat];rfl) (fun h => ?_)
 simp only [Bool.and_eq_true,inB_iff] at h
 rw [eb,pw_eq _ _ h.1.1.1 (by omega),pw_eq _ _ h.1.2.1 (by omega)]
theorem rbA_2 (m:Ms) (w:World) (k:m.kind=2∨m.kind=3):Calls Tryz.prog 19 #[msV m] w (RBp m w):=by
 have eo:ownS m=own2 m:=by unfold ownS;rw [if_neg (by omega),if_pos k]
 have ek:ownB m.msg=decide (m.dat.size≤1000):=by rcases k with k | k <;> (unfold ownB;simp [Ms.msg,k])
 have eb:bodyM m.msg=m.dat:=by rcases k with k | k <;> (unfold bodyM;simp [Ms.msg,k])
 have k0:=kf_of m.kind 0 (by omega)
 have k20:=kf_of m.kind 20 (by omega)
 have k21:=kf_of m.kind 21 (by omega)
 have k1:=kf_of m.kind 1 (by omega)
 refine rb_of (rb2 m w k0 k20 k21 k1 ?_) eo (by rw [ek,← dec_nat];rfl) (fun _=>eb.symm)
 rcases k with k | k
 ·exact .inl (kt_of _ _ k)
 ·exact .inr ⟨kf_of _ _ (by omega),kt_of _ _ k⟩
theorem port_as (p:Int) (h0:0≤p) (h1:p < 18446744073709551616) (st:ByteArray) (b:Bool) (hs:pb (dwn b) 4=st):⟨#[2]⟩ ++ zeros 7 ++ pw p 4 ++ zeros 32 ++ st ++ zeros 24=portS p b:=by
 unfold portS
 have e:pb 2 1 ++ gap3 ++ gap4=⟨#[2]⟩ ++ zeros 7:=by decide +kernel
 rw [e,hs,pw_eq _ _ h0 h1]
theorem rbA_12 (m:Ms) (w:World) (k:m.kind=12):Calls Tryz.prog 19 #[msV m] w (RBp m w):=by
  have eo:ownS m=own12 m m.live:=by unfold ownS;rw [if_neg (by omega),if_neg (by omega),if_pos k]
  have ek:ownB m.msg=inB m.prt 1 16:=by unfold ownB;simp [Ms.msg,k]
  have eb:bodyM m.msg=portS m.prt m.live:=by unfold bodyM;simp [Ms.msg,k]
  have k0:=kf_of m.kind 0 (by omega)
  have k20:=kf_of m.kind 20 (by omega)
  have k21:=kf_of m.kind 21 (by omega)
  have k1:=kf_of m.kind 1 (by omega)
  have k2:=kf_of m.kind 2 (by omega)
  have k3:=kf_of m.kind 3 (by omega)
  have k12:=kt_of m.kind 12 k
  cases hl:m.live with
  | true =>
    refine rb_of (rb12_t m w hl k0 k20 k21 k1 k2 k3 k12) (by rw [eo,hl]) ek (fun h => ?_)
    rw [inB_iff] at h
    rw [eb,hl]
    exact port_as m.prt (by omega) (by omega) _ true (by decide +kernel)
  | false =>
    refine rb_of (rb12_f m w hl k0 k20 k21 k1 k2 k3 k12) (by rw [eo,hl]) ek (fun h => ?_)
    rw [inB_iff] at h
    rw [eb,hl]
    exact port_as m.prt (by omega) (by omega) _ false (by decide +kernel)
theorem rbA_13 (m:Ms) (w:World) (mw:MW w m) (mu:MU m) (k:m.kind=13):Calls Tryz.prog 19 #[msV m] w (RBp m w):=by
 have eo:ownS m=own13 m:=by unfold ownS;rw [if_neg (by omega),if_neg (by omega),if_neg (by omega),if_pos k]
 have ek:ownB m.msg=(inB m.prt 0 16 && mostA m.la 32 && decide (m.dat.size≤1500)):=by rw [most32];unfold ownB;simp [Ms.msg,k]
 have eb:bodyM m.msg=packS m.prt m.la m.dat:=by unfold bodyM;simp [Ms.msg,k]
 have k0:=kf_of m.kind 0 (by omega)
 have k20:=kf_of m.kind 20 (by omega)
 have k21:=kf_of m.kind 21 (by omega)
 have k1:=kf_of m.kind 1 (by omega)
 have k2:=kf_of m.kind 2 (by omega)
 have k3:=kf_of m.kind 3 (by omega)
 have k12:=kf_of m.kind 12 (by omega)
 have k13:=kt_of m.kind 13 k
 refine rb_of (rb13 m w mw mu k0 k20 k21 k1 k2 k3 k12 k13) eo (by rw [ek,← dec_nat,Bool.and_comm (inB m.prt 0 16)];rfl) (fun h => ?_)
 simp only [Bool.and_eq_true,inB_iff] at h
 have hz:=encS_le m.la
 rw [eb,pw_eq _ _ h.1.2.1 (by omega),pw_eq _ _ (by omega) (by omega)]
 unfold packS
 rw [ba_pre (ff4 ++ pb m.prt 4 ++ pb ((encodeS m.la).size:Int) 2) gap4 gap2 (zeros 6) (by decide +kernel)]
 rfl
theorem flow_as (m:Ms) (b:Bool) (fl:ByteArray) (hf:pb (flg b) 2 ++ gap2=fl) (hc:inB m.cmd 0 4=true) (hp:inB m.en.pri 0 65535=true) (hx:rightX m.en.sp=0) :
    zeros 16 ++ pw m.en.tab 1 ++ pw m.cmd 1 ++ zeros 4 ++ pw m.en.pri 2 ++ ⟨#[255,255,255,255,255,255,255,255,255,255,255,255]⟩ ++ fl ++ Mt.encodeS m.ts ++ encodeX m.en.sp=flowS m.cmd b m.en.pri m.ts m.en.sp:=by
  rw [inB_iff] at hc hp
  have ht:0≤m.en.tab∧m.en.tab < 8:=by
    unfold rightX at hx
    split at hx
    · cases hx
    · next ht =>
      have:tabB m.en.tab=true:=by simpa [En.sp] using ht
      simpa [tabB] using this
  rw [pw_eq _ _ ht.1 (by omega),pw_eq _ _ hc.1 (by omega),pw_eq _ _ hp.1 (by omega)]
  unfold flowS
  rw [ba_pre (zeros 16 ++ pb m.en.sp.tab 1 ++ pb m.cmd 1 ++ gap4 ++ pb m.en.pri 2 ++ ff12) (pb (flg b) 2) gap2 fl hf]
  rfl
theorem rbA_14 (m:Ms) (w:World) (mw:MW w m) (mu:MU m) (k:m.kind=14):Calls Tryz.prog 19 #[msV m] w (RBp m w):=by
  have eo:ownS m=own14 m m.chk:=by unfold ownS;rw [if_neg (by omega),if_neg (by omega),if_neg (by omega),if_neg (by omega),if_pos k]
  have ek:ownB m.msg=(inB m.cmd 0 4 && (inB m.en.pri 0 65535 && (Mt.rightE m.ts == 0) && (rightX m.en.sp == 0))):=by unfold ownB entB;simp [Ms.msg,k]
  have eb:bodyM m.msg=flowS m.cmd m.chk m.en.pri m.ts m.en.sp:=by unfold bodyM;simp [Ms.msg,k]
  have k0:=kf_of m.kind 0 (by omega)
  have k20:=kf_of m.kind 20 (by omega)
  have k21:=kf_of m.kind 21 (by omega)
  have k1:=kf_of m.kind 1 (by omega)
  have k2:=kf_of m.kind 2 (by omega)
  have k3:=kf_of m.kind 3 (by omega)
  have k12:=kf_of m.kind 12 (by omega)
  have k13:=kf_of m.kind 13 (by omega)
  have k14:=kt_of m.kind 14 k
  have e4:∀ a b c f:Bool,(c && (f && a && b))=(a && b && c && f):=fun a b c f=>by cases a <;> cases b <;> cases c <;> cases f <;> rfl
  rw [e4] at ek
  cases hl:m.chk with
  | true =>
    refine rb_of (rb14_t m w mw mu hl k0 k20 k21 k1 k2 k3 k12 k13 k14) (by rw [eo,hl]) ek (fun h => ?_)
    simp only [Bool.and_eq_true] at h
    rw [eb,hl]
    exact flow_as m true _ (by decide +kernel) h.1.2 h.2 (by simpa using h.1.1.2)
  | false =>
    refine rb_of (rb14_f m w mw mu hl k0 k20 k21 k1 k2 k3 k12 k13 k14) (by rw [eo,hl]) ek (fun h => ?_)
    simp only [Bool.and_eq_true] at h
    rw [eb,hl]
    exact flow_as m false _ (by decide +kernel) h.1.2 h.2 (by simpa using h.1.1.2)
theorem rbA_15 (m:Ms) (w:World) (mw:MW w m) (mu:MU m) (k:m.kind=15):Calls Tryz.prog 19 #[msV m] w (RBp m w):=by
  have eo:ownS m=own15 m:=by unfold ownS;rw [if_neg (by omega),if_neg (by omega),if_neg (by omega),if_neg (by omega),if_neg (by omega),if_pos k]
  have ek:ownB m.msg=(inB m.cmd 0 2 && grB m.gid m.gkd (m.gb.map Bk.b3)):=by unfold ownB;simp [Ms.msg,k]
  have eb:bodyM m.msg=grpS m.cmd m.gid m.gkd (m.gb.map Bk.b3):=by unfold bodyM;simp [Ms.msg,k]
  have k0:=kf_of m.kind 0 (by omega)
  have k20:=kf_of m.kind 20 (by omega)
  have k21:=kf_of m.kind 21 (by omega)
  have k1:=kf_of m.kind 1 (by omega)
  have k2:=kf_of m.kind 2 (by omega)
  have k3:=kf_of m.kind 3 (by omega)
  have k12:=kf_of m.kind 12 (by omega)
  have k13:=kf_of m.kind 13 (by omega)
  have k14:=kf_of m.kind 14 (by omega)
  have k15:=kt_of m.kind 15 k
  cases hg:grB m.gid m.gkd (m.gb.map Bk.b3) with
  | false=>exact rb_of (rb15_f m w mw mu k0 k20 k21 k1 k2 k3 k12 k13 k14 k15 hg) eo (by rw [ek,hg];simp) (fun h=>by cases h)
  | true =>
    refine rb_of (rb15_t m w mw mu k0 k20 k21 k1 k2 k3 k12 k13 k14 k15 hg) eo (by rw [ek,hg];simp) (fun h => ?_)
    rw [inB_iff] at h
    obtain ⟨_,i0,i1,j0,j1,_⟩:=grB_few hg
    rw [eb,pw_eq _ _ h.1 (by omega),pw_eq _ _ (by omega) (by omega),pw_eq _ _ (by omega) (by omega)]
    rfl
theorem rbA_29 (m:Ms) (w:World) (k:m.kind=29):Calls Tryz.prog 19 #[msV m] w (RBp m w):=by
 have eo:ownS m=own29 m:=by unfold ownS;rw [if_neg (by omega),if_neg (by omega),if_neg (by omega),if_neg (by omega),if_neg (by omega),if_neg (by omega),if_pos k]
 have ek:ownB m.msg=(inB m.cmd 0 2 && (inB m.mid 1 16 && inB m.mra 0 4294967295 && inB m.mbu 0 4294967295)):=by unfold ownB meB;simp [Ms.msg,k]
 have eb:bodyM m.msg=metS m.cmd m.mid m.mra m.mbu:=by unfold bodyM;simp [Ms.msg,k]
 have k0:=kf_of m.kind 0 (by omega)
 have k20:=kf_of m.kind 20 (by omega)
 have k21:=kf_of m.kind 21 (by omega)
 have k1:=kf_of m.kind 1 (by omega)
 have k2:=kf_of m.kind 2 (by omega)
 have k3:=kf_of m.kind 3 (by omega)
 have k12:=kf_of m.kind 12 (by omega)
 have k13:=kf_of m.kind 13 (by omega)
 have k14:=kf_of m.kind 14 (by omega)
 have k15:=kf_of m.kind 15 (by omega)
 have k29:=kt_of m.kind 29 k
 refine rb_of (rb29 m w k0 k20 k21 k1 k2 k3 k12 k13 k14 k15 k29) eo (by rw [ek];simp only [Bool.and_assoc]) (fun h => ?_)
 simp only [Bool.and_eq_true,inB_iff] at h
 obtain ⟨⟨⟨q0,q1⟩,q2⟩,q3⟩:=h
 rw [eb,pw_eq _ _ q0.1 (by omega),pw_eq _ _ (by omega) (by omega),pw_eq _ _ q2.1 (by omega),pw_eq _ _ q3.1 (by omega)]
 have e1:pb 5 2=⟨#[0,5]⟩:=by decide +kernel
 have e2:pb 65552 4=⟨#[0,1,0,16]⟩:=by decide +kernel
 unfold metS
 rw [e1,e2]
 rfl
theorem rbody_any (m:Ms) (w:World) (mw:MW w m) (mu:MU m):Calls Tryz.prog 19 #[msV m] w (RBp m w):=by
 have z:m.kind≠1→m.kind≠2→m.kind≠3→m.kind≠12→m.kind≠13→m.kind≠14→m.kind≠15→m.kind≠29→ownS m=own0 m∧bodyM m.msg=⟨#[]⟩:=fun h1 h2 h3 h12 h13 h14 h15 h29=>by
  constructor
  ·unfold ownS;simp [h1,h2,h3,h12,h13,h14,h15,h29]
  ·unfold bodyM;simp [Ms.msg,h1,h2,h3,h12,h13,h14,h15,h29]
 rcases kinds m.kind with k | k | k | k | k | k | k | k | k | k | k | k
 ·obtain ⟨e1,e2⟩:=z (by omega) (by omega) (by omega) (by omega) (by omega) (by omega) (by omega) (by omega)
  exact rb_of (rbn m w (.inl (kt_of _ _ k))) e1 (by unfold ownB;simp [Ms.msg,k]) (fun _=>e2.symm)
 ·exact rbA_1 m w mw k
 ·exact rbA_2 m w (.inl k)
 ·exact rbA_2 m w (.inr k)
 ·exact rbA_12 m w k
 ·exact rbA_13 m w mw mu k
 ·exact rbA_14 m w mw mu k
 ·exact rbA_15 m w mw mu k
 ·obtain ⟨e1,e2⟩:=z (by omega) (by omega) (by omega) (by omega) (by omega) (by omega) (by omega) (by omega)
  exact rb_of (rbn m w (.inr (.inl ⟨kf_of _ _ (by omega),kt_of _ _ k⟩))) e1 (by unfold ownB;simp [Ms.msg,k]) (fun _=>e2.symm)
 ·obtain ⟨e1,e2⟩:=z (by omega) (by omega) (by omega) (by omega) (by omega) (by omega) (by omega) (by omega)
  exact rb_of (rbn m w (.inr (.inr ⟨kf_of _ _ (by omega),kf_of _ _ (by omega),kt_of _ _ k⟩))) e1 (by unfold ownB;simp [Ms.msg,k]) (fun _=>e2.symm)
 ·exact rbA_29 m w k
 ·obtain ⟨k0,k1,k2,k3,k12,k13,k14,k15,k20,k21,k29⟩:=k
  have hk:=rbz m w k0 k20 k21 k1 k2 k3 k12 k13 k14 k15 k29
  simp only [beq_eq_false_iff_ne] at k0 k1 k2 k3 k12 k13 k14 k15 k20 k21 k29
  obtain ⟨e1,e2⟩:=z k1 k2 k3 k12 k13 k14 k15 k29
  exact rb_of hk e1 (by unfold ownB;simp [Ms.msg, *]) (fun _=>e2.symm)
end Go.Proofs.YtlcbfdiohcbpbaaGreatDoor

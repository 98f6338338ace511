import Derived.Test.YtlcbfdiohcbpbaaGreatDoorZA3
import Derived.Test.YtlcbfdiohcbpbaaGreatDoorZC1
namespace Go.Proofs.YtlcbfdiohcbpbaaGreatDoor
set_option maxHeartbeats 16000000
set_option maxRecDepth 20000
def byteAt (q:ByteArray) (i:Nat):Int:=((q.data.toList.getD i 0).toNat:Int)
theorem byteAt_lt (q:ByteArray) (i:Nat):0≤byteAt q i∧byteAt q i < 256:=by
 unfold byteAt
 have:=(q.data.toList.getD i 0).toNat_lt
 omega
theorem len_size (x:ByteArray):x.data.toList.length=x.size:=by simp
def nm (s:ByteArray) (i j:Nat):Int:=numOf (s.extract i j).data.toList
theorem nm_lt (s:ByteArray) (i j:Nat) (h:j≤i + 8):0≤nm s i j∧nm s i j < 18446744073709551616:=by
 have hl:(s.extract i j).data.toList.length≤8:=by
  have:(s.extract i j).size≤8:=by rw [ByteArray.size_extract];omega
  rw [len_size];exact this
 have h:=numOf_lt _ hl
 have h2:=Nat.pow_le_pow_right (show 0 < 256 by decide) hl
 have h3:=Int.ofNat_le.mpr h2
 rw [Int.natCast_pow,Int.natCast_pow] at h3
 exact ⟨h.1,Int.lt_of_lt_of_le h.2 h3⟩
def condB (s:ByteArray) (k:Int):Bool:=decide (0 < codeV k) && (byteAt s 6 == 2 * codeV k) && decide (s.size=16)
def findF (s:ByteArray):Nat→Int→Int
 | 0,_=>0
 | n + 1,k=>if condB s k=true then k else findF s n (k + 1)
def oneF (s:ByteArray):Int:=findF s 7 3
def oneV (s:ByteArray):A :=
 if nm s 0 2=0 then (1,0,nm s 4 8) else if nm s 0 2=22 then (2,0,nm s 4 8) else if nm s 0 2=17 then (3,0,0) else if nm s 0 2=18 then (4,0,0)
 else if nm s 0 2=25 then (if oneF s=0 then (0,0,0) else (5,oneF s,nm s 8 (8 + rszV (oneF s)))) else (0,0,0)
theorem code_range (k:Int):0≤codeV k∧codeV k≤14:=by unfold codeV;(repeat' split) <;> omega
theorem find_is (s:ByteArray):∀ (n:Nat) (k:Int),findF s n k=0∨(condB s (findF s n k)=true)
  | 0,_=>.inl rfl
  | n + 1,k=>by
    rw [findF]
    split
    · next h=>exact .inr h
    · exact find_is s n (k + 1)
theorem one_v0 (s:ByteArray):0≤(oneV s).2.2:=by
 have h1:=(nm_lt s 4 8 (by omega)).1
 have h2:=(nm_lt s 8 (8 + rszV (oneF s)) (by unfold rszV;split <;> omega)).1
 unfold oneV
 split
 ·exact h1
 split
 ·exact h1
 split
 ·exact Int.le_refl _
 split
 ·exact Int.le_refl _
 split
 ·split
  ·exact Int.le_refl _
  ·exact h2
 ·exact Int.le_refl _
theorem one_aw (s:ByteArray):AW (oneV s):=by
 have h1:=nm_lt s 4 8 (by omega)
 have h2:=nm_lt s 8 (8 + rszV (oneF s)) (by unfold rszV;split <;> omega)
 have hf : -9223372036854775808≤oneF s∧oneF s < 9223372036854775808:=by
  rcases find_is s 7 3 with h | h
  ·unfold oneF;rw [h];omega
  ·have hc:0 < codeV (findF s 7 3):=by unfold condB at h;simp at h;omega
   unfold oneF
   unfold codeV at hc
   revert hc
   (repeat' split) <;> omega
 unfold oneV
 split
 ·exact ⟨by simp,by simp,h1.1,h1.2⟩
 split
 ·exact ⟨by simp,by simp,h1.1,h1.2⟩
 split
 ·exact ⟨by simp,by simp,by simp,by simp⟩
 split
 ·exact ⟨by simp,by simp,by simp,by simp⟩
 split
 ·split
  ·exact ⟨by simp,by simp,by simp,by simp⟩
  ·exact ⟨hf.1,hf.2,h2.1,h2.2⟩
 ·exact ⟨by simp,by simp,by simp,by simp⟩
theorem nm_ap (a b c:ByteArray) (n:Int) (i k:Nat) (ha:a.size=i) (hb:b=pb n k) (hk:k≤8) (h0:0≤n) (h1:n < 256 ^ k):nm (a ++ (b ++ c)) i (i + k)=n:=by
 have e:(a ++ (b ++ c)).extract i (i + k)=pb n k:=by
  apply ba_ext
  have la:a.data.toList.length=i:=by simpa using ha
  have lb:b.data.toList.length=k:=by rw [hb];exact pb_len n k
  simp only [ByteArray.data_extract,Array.toList_extract]
  rw [List.extract_eq_take_drop,ba_append,ba_append,List.drop_append_of_le_length (by omega),List.drop_of_length_le (by omega),List.nil_append,Nat.add_sub_cancel_left,List.take_append_of_le_length (by omega),List.take_of_length_le (by omega),hb]
 unfold nm
 rw [e,pb_list]
 exact numOf_pieces k n hk h0 h1
theorem nm_ap0 (b c:ByteArray) (n:Int) (k:Nat) (hb:b=pb n k) (hk:k≤8) (h0:0≤n) (h1:n < 256 ^ k):nm (b ++ c) 0 k=n:=by
 have:=nm_ap ⟨#[]⟩ b c n 0 k rfl hb hk h0 h1
 rw [Nat.zero_add,show (⟨#[]⟩:ByteArray) ++ (b ++ c)=b ++ c by apply ba_ext;simp] at this
 exact this
theorem byte_ap (a b c:ByteArray) (n:Int) (i:Nat) (ha:a.size=i) (hb:b=pb n 1) (h0:0≤n) (h1:n < 256):byteAt (a ++ (b ++ c)) i=n:=by
 have la:a.data.toList.length=i:=by simpa using ha
 have lb:b.data.toList=[UInt8.ofNat n.toNat]:=by
  rw [hb,pb_list]
  simp only [pieces,List.nil_append,List.map_cons,List.map_nil]
  rw [Int.emod_eq_of_lt h0 h1]
 unfold byteAt
 rw [ba_append,ba_append,lb,List.getD_eq_getElem?_getD,List.getElem?_append_right (by omega),la,Nat.sub_self]
 simp
 omega
theorem one_write {a:A} (h:rightB a=true) (hw:0≤a.2.2):oneV (writeV a)=a:=by
 rcases right_cases h with ⟨h1,h2,h3,h4⟩ | ⟨h1,h2,h3,h4⟩ | ⟨h1,h2,h3⟩ | ⟨h1,h2,h3⟩ | ⟨h1,h2,h3,h4⟩
 ·obtain ⟨k,f,v⟩:=a
  simp only at h1 h2 h3 h4 hw
  subst h1 h2
  have n2:nm (writeV (1,0,v)) 0 2=0:=by rw [wr1];exact nm_ap0 _ _ 0 2 rfl (by omega) (by omega) (by omega)
  have n8:nm (writeV (1,0,v)) 4 8=v:=by
   rw [wr1,← ap_assoc]
   exact nm_ap _ _ _ v 4 4 (by simp only [ByteArray.size_append,pb_size]) rfl (by omega) hw (by omega)
  unfold oneV
  rw [n2,n8]
  rfl
 ·obtain ⟨k,f,v⟩:=a
  simp only at h1 h2 h3 h4 hw
  subst h1 h2
  have n2:nm (writeV (2,0,v)) 0 2=22:=by rw [wr2];exact nm_ap0 _ _ 22 2 rfl (by omega) (by omega) (by omega)
  have n8:nm (writeV (2,0,v)) 4 8=v:=by
   rw [wr2,← ap_assoc]
   exact nm_ap _ _ _ v 4 4 (by simp only [ByteArray.size_append,pb_size]) rfl (by omega) hw (by omega)
  unfold oneV
  rw [n2,n8]
  rfl
 ·obtain ⟨k,f,v⟩:=a
  simp only at h1 h2 h3
  subst h1 h2 h3
  have n2:nm (writeV (3,0,0)) 0 2=17:=by rw [wr3];exact nm_ap0 _ _ 17 2 rfl (by omega) (by omega) (by omega)
  unfold oneV
  rw [n2]
  rfl
 ·obtain ⟨k,f,v⟩:=a
  simp only at h1 h2 h3
  subst h1 h2 h3
  have n2:nm (writeV (4,0,0)) 0 2=18:=by rw [wr4];exact nm_ap0 _ _ 18 2 rfl (by omega) (by omega) (by omega)
  unfold oneV
  rw [n2]
  rfl
 ·have hsz:=encS_len1 a h
  obtain ⟨k,f,v⟩:=a
  simp only at h1 h2 h3 h4 hw hsz
  subst h1
  obtain ⟨s0,s1,s2⟩:=sz_set h2
  have hg:=Int.lt_of_le_of_lt h4 (gr_pow s0)
  have n2:nm (writeV (5,f,v)) 0 2=25:=by rw [wr5];exact nm_ap0 _ _ 25 2 rfl (by omega) (by omega) (by omega)
  have b6:byteAt (writeV (5,f,v)) 6=2 * codeV f:=by
   have:=code_range f
   rw [wr5,← ap_assoc,← ap_assoc]
   exact byte_ap _ _ _ _ 6 (by simp only [ByteArray.size_append,pb_size]) rfl (by omega) (by omega)
  have nv:nm (writeV (5,f,v)) 8 (8 + szV f)=v:=by
   rw [wr5,← ap_assoc,← ap_assoc,← ap_assoc,← ap_assoc]
   exact nm_ap _ _ _ v 8 (szV f) (by simp only [ByteArray.size_append,pb_size]) rfl (by omega) hw hg
  have hs:(writeV (5,f,v)).size=16:=hsz
  have hF:oneF (writeV (5,f,v))=f∧rszV f=szV f:=by
   unfold oneF
   simp only [findF,condB,b6,hs]
   rcases h2 with rfl | rfl | rfl | rfl | rfl <;> exact ⟨by decide,by decide⟩
  unfold oneV
  rw [n2,hF.1,hF.2,nv]
  have : ¬ f=0:=by omega
  simp [this]
theorem read_v0 (d:ByteArray):0≤(readV d).2.2:=by
 unfold readV
 split
 ·exact (RS.num_lt _ 4 (by omega)).1
 split
 ·exact (RS.num_lt _ _ (szV_le _)).1
 ·exact Int.le_refl _
theorem one_read (s:ByteArray):(rightB (oneV s)=true∧writeV (oneV s)=s↔rightB (readV s)=true∧writeV (readV s)=s)∧(rightB (readV s)=true∧writeV (readV s)=s→oneV s=readV s):=by
 refine ⟨⟨fun ⟨h1,h2⟩ => ?_,fun ⟨h1,h2⟩ => ?_⟩,fun ⟨h1,h2⟩ => ?_⟩
 ·have e:=read_write h1 (one_v0 s)
  rw [h2] at e
  rw [e]
  exact ⟨h1,h2⟩
 ·have e:=one_write h1 (read_v0 s)
  rw [h2] at e
  rw [e]
  exact ⟨h1,h2⟩
 ·have e:=one_write h1 (read_v0 s)
  rwa [h2] at e
open Go.ChangeShapes Go.WideShapes Go.ChangeAt Go.RowKit
set_option linter.unusedSimpArgs false
theorem rnum_any (s:ByteArray) (w:World) (hs:s.size≤100000) :
    Calls Tryz.prog 55 #[.string s] w fun x w'=>x=.returned (.int .u64 (numOf s.data.toList))∧w'=w:=by
  go_enter Tryz.func55,Tryz.ntmps55
  go_wp2
  go_loop [3,4] (fun n i=>∃ k:Nat,k≤s.size∧i=.int .i64 k∧n=.int .u64 (numOf (s.data.toList.take k))) (fun _ i=>s.size - (intOf i).toNat)
  case atStart=>exact ⟨0,Nat.zero_le _,rfl,rfl⟩
  case round =>
    obtain ⟨k,hk,rfl,rfl⟩:=hrel
    by_cases hlt:k < s.size
    · have HS:Hid (numOf (s.data.toList.take (k + 1))=stepN (numOf (s.data.toList.take k)) s[k]):=numOf_take s k hlt
      go_wp2
      go_round
      case rel=>exact ⟨k + 1,by omega,by go_num,by rw [HS.out];rfl⟩
      case measure=>simp [intOf];omega
    · go_wp2
      go_ret
      exact ⟨ret_int (by rw [List.take_of_length_le (by simp;omega)]),rfl⟩
theorem rnm_any (s:ByteArray) (i j:Nat) (w:World) (h:j≤i + 8):Calls Tryz.prog 55 #[.string (s.extract i j)] w fun x w'=>x=.returned (.int .u64 (nm s i j))∧w'=w :=
 rnum_any _ w (by rw [ByteArray.size_extract];omega)
theorem idx_s (s:ByteArray) (i:Nat) (h:i < s.size) (w:World):(Instr.index 9 (.string s) (.int .i64 (i:Int))).run Tryz.prog w=.ok (.int .u8 (byteAt s i)) w:=by
 have hu:Tryz.prog.underlying 9=some .string:=Tryz.underlying9
 have e:byteAt s i=((s[i]).toNat:Int):=by
  unfold byteAt
  have hi:i < s.data.toList.length:=by rw [len_size];exact h
  rw [List.getD_eq_getElem?_getD,List.getElem?_eq_getElem hi]
  rfl
 rw [e]
 have h1:(i:Int) < (s.size:Int):=by omega
 simp [Instr.index,run_underlying hu,asIntOf,go_sem,h1,h]
theorem one_0 {s:ByteArray} (h:nm s 0 2=0):oneV s=(1,0,nm s 4 8):=by unfold oneV;rw [if_pos h]
theorem one_22 {s:ByteArray} (h:nm s 0 2=22):oneV s=(2,0,nm s 4 8):=by unfold oneV;rw [h];rfl
theorem one_17 {s:ByteArray} (h:nm s 0 2=17):oneV s=(3,0,0):=by unfold oneV;rw [h];rfl
theorem one_18 {s:ByteArray} (h:nm s 0 2=18):oneV s=(4,0,0):=by unfold oneV;rw [h];rfl
theorem one_25 {s:ByteArray} (h:nm s 0 2=25):oneV s=if oneF s=0 then (0,0,0) else (5,oneF s,nm s 8 (8 + rszV (oneF s))):=by unfold oneV;rw [h];rfl
theorem one_any (s:ByteArray) (w:World) (h8:8≤s.size) (_:s.size≤maxLen) :
    Calls Tryz.prog 88 #[.string s] w fun e w'=>e=.returned (tV (oneV s))∧Below w.heap.size w w':=by
  have H2:Hid (∀ w,Calls Tryz.prog 55 #[.string (s.extract 0 2)] w fun x w'=>x=.returned (.int .u64 (nm s 0 2))∧w'=w):=(show ∀ w,_ from fun w=>rnm_any s 0 2 w (by omega))
  have H8:Hid (∀ w,Calls Tryz.prog 55 #[.string (s.extract 4 8)] w fun x w'=>x=.returned (.int .u64 (nm s 4 8))∧w'=w):=(show ∀ w,_ from fun w=>rnm_any s 4 8 w (by omega))
  by_cases k0:nm s 0 2=0
  · rw [one_0 k0]
    rw [k0] at H2
    clear k0
    generalize nm s 4 8=v at *
    go_enter Tryz.func88,Tryz.ntmps88
    go_wp2_with fail
    refine (H2.out _).mono ?_
    rintro x w1 ⟨rfl,rfl⟩
    go_wp2_with fail
    refine (H8.out _).mono ?_
    rintro x w1 ⟨rfl,rfl⟩
    go_wp2_with fail
    refine bodyPost_ret (resT (b:=w.heap.size) (t:=(1,0,v)) rfl rfl (C3.new w (1,0,v))) rfl ?_
    exact ⟨rfl,by go_grown⟩
  by_cases k1:nm s 0 2=22
  · rw [one_22 k1]
    rw [k1] at H2
    clear k0 k1
    generalize nm s 4 8=v at *
    go_enter Tryz.func88,Tryz.ntmps88
    go_wp2_with fail
    refine (H2.out _).mono ?_
    rintro x w1 ⟨rfl,rfl⟩
    go_wp2_with fail
    refine (H8.out _).mono ?_
    rintro x w1 ⟨rfl,rfl⟩
    go_wp2_with fail
    refine bodyPost_ret (resT (b:=w.heap.size) (t:=(2,0,v)) rfl rfl (C3.new w (2,0,v))) rfl ?_
    exact ⟨rfl,by go_grown⟩
  by_cases k2:nm s 0 2=17
  · rw [one_17 k2]
    rw [k2] at H2
    clear k0 k1 k2 H8
    go_enter Tryz.func88,Tryz.ntmps88
    go_wp2_with fail
    refine (H2.out _).mono ?_
    rintro x w1 ⟨rfl,rfl⟩
    go_wp2_with fail
    refine bodyPost_ret (resT (b:=w.heap.size) (t:=(3,0,0)) rfl rfl (C3.new w (3,0,0))) rfl ?_
    exact ⟨rfl,by go_grown⟩
  by_cases k3:nm s 0 2=18
  · rw [one_18 k3]
    rw [k3] at H2
    clear k0 k1 k2 k3 H8
    go_enter Tryz.func88,Tryz.ntmps88
    go_wp2_with fail
    refine (H2.out _).mono ?_
    rintro x w1 ⟨rfl,rfl⟩
    go_wp2_with fail
    refine bodyPost_ret (resT (b:=w.heap.size) (t:=(4,0,0)) rfl rfl (C3.new w (4,0,0))) rfl ?_
    exact ⟨rfl,by go_grown⟩
  by_cases k4:nm s 0 2=25
  · rw [one_25 k4]
    rw [k4] at H2
    have HC:Hid (∀ k w,Calls Tryz.prog 118 #[.int .i64 k] w fun e w'=>e=.returned (.int .i64 (codeV k))∧Below w.heap.size w w'):=(show ∀ k w,_ from fun k w=>(rcode_any k w).mono fun _ _ ⟨a,b⟩=>⟨a,b ▸ Below.refl _ _⟩)
    have HS:Hid (∀ k w,Calls Tryz.prog 119 #[.int .i64 k] w fun e w'=>e=.returned (.int .i64 (rszV k))∧w'=w):=(show ∀ k w,_ from fun k w=>rsize_any k w)
    have HN:Hid (∀ (k:Nat) w,k≤8→Calls Tryz.prog 55 #[.string (s.extract 8 (8 + k))] w fun x w'=>x=.returned (.int .u64 (nm s 8 (8 + k)))∧w'=w):=(show ∀ (k:Nat) w,_ from fun k w hk=>rnm_any s 8 (8 + k) w (by omega))
    have hix:∀ w,(Instr.index 9 (.string s) (.int .i64 6)).run Tryz.prog w=.ok (.int .u8 (byteAt s 6)) w:=idx_s s 6 (by omega)
    have HB:Hid (0≤byteAt s 6∧byteAt s 6 < 256):=byteAt_lt s 6
    obtain ⟨F,hF⟩:∃ F,oneF s=F:=⟨_,rfl⟩
    have HF:Hid (findF s 7 3=F):=hF
    rw [hF]
    clear k0 k1 k2 k3 k4 H8 hF
    go_enter Tryz.func88,Tryz.ntmps88
    go_wp2_with fail
    refine (H2.out _).mono ?_
    rintro x w1 ⟨rfl,rfl⟩
    go_wp2_with fail
    go_loopw [3] (fun i wr=>∃ (k:Int) (n:Nat),3≤k∧k + (n:Int)=10∧i=.int .i64 k∧Hid (findF s n k=F)∧W3 wr w.heap.size (0,0,0)∧w.heap.size < wr.heap.size∧Below w.heap.size w wr) (fun i _=>10 - (intOf i).toNat)
    case atStart=>exact ⟨3,7,by omega,by omega,rfl,HF,W3.new w (0,0,0),by simp,by go_grown⟩
    case round =>
      obtain ⟨k,n,hk0,hkn,rfl,HG,d0,hz,hbel⟩:=hrel
      by_cases hn:n=0
      · subst hn
        have hk:k=10:=by omega
        subst hk
        have e:F=0:=HG.out.symm
        subst e
        have d0':=d0
        obtain ⟨⟨c0,c1,c2⟩,cf⟩:=d0'
        go_wp2_with fail
        have d20:W3 _ w.heap.size (0,0,0):=((d0.set0 0).set1 0).set2 0
        refine bodyPost_ret (resT (b:=w.heap.size) (t:=(0,0,0)) rfl rfl d20.c) rfl ?_
        exact ⟨rfl,((hbel.setCell (Nat.le_refl _) _).setCell (Nat.le_refl _) _).setCell (Nat.le_refl _) _⟩
      · obtain ⟨m,rfl⟩:∃ m,n=m + 1:=⟨n - 1,by omega⟩
        have hk9:k≤9:=by omega
        have HG2:Hid ((if condB s k=true then k else findF s m (k + 1))=F):=(show _=_ by rw [← HG.out];rfl)
        have HCk:Hid (∀ w,Calls Tryz.prog 118 #[.int .i64 k] w fun e w'=>e=.returned (.int .i64 (codeV k))∧Below w.heap.size w w'):=(show ∀ w,_ from fun w=>HC.out k w)
        obtain ⟨cr0,cr1⟩:=code_range k
        have HCB:Hid (condB s k=(decide (0 < codeV k) && (byteAt s 6 == 2 * codeV k) && decide (s.size=16))):=(show _=_ from rfl)
        obtain ⟨y0,y1⟩:=HB.out
        have hwb:IntKind.i64.wrap (byteAt s 6)=byteAt s 6:=by rw [IntKind.wrap_i64];omega
        generalize byteAt s 6=Y at *
        generalize codeV k=c at *
        have hwc:IntKind.i64.wrap (2 * c)=2 * c:=by rw [IntKind.wrap_i64];omega
        have next:condB s k=false→Hid (findF s m (k + 1)=F):=fun hc=>(show _=_ by rw [← HG2.out,if_neg (by rw [hc];decide)])
        have done:condB s k=true→Hid (k=F):=fun hc=>(show _=_ by rw [← HG2.out,if_pos hc])
        cases b1:decide (0 < c) with
        | false =>
          have HNx:=next (by rw [HCB.out,b1];rfl)
          clear next done HG2 HCB HG
          go_wp2_with fail
          refine wp_region_grow (by kernel_rfl) (by kernel_rfl) ?_
          repeat (go_big_quiet_step (first | (go_at_call 118;exact quiet_gr (HCk.out _))))
          refine wpQuiet_nil ?_
          rintro w3 hw'
          have g3:=gr_elim hw'
          clear hw'
          go_wp2_with fail
          go_roundw
          case rel=>exact ⟨k + 1,m,by omega,by omega,by go_num,HNx,d0.block (g3.block _ hz),Nat.lt_of_lt_of_le hz g3.size,btr hbel g3 (by omega)⟩
          case measure=>simp [intOf];omega
        | true =>
          cases b2:(Y == 2 * c) with
          | false =>
            have HNx:=next (by rw [HCB.out,b1,b2];rfl)
            clear next done HG2 HCB HG
            go_wp2_with fail
            refine wp_region_grow (by kernel_rfl) (by kernel_rfl) ?_
            repeat (go_big_quiet_step (first | (go_at_call 118;exact quiet_gr (HCk.out _))))
            refine wpQuiet_nil ?_
            rintro w3 hw'
            have g3:=gr_elim hw'
            clear hw'
            go_wp2_with fail
            go_roundw
            case rel=>exact ⟨k + 1,m,by omega,by omega,by go_num,HNx,d0.block (g3.block _ hz),Nat.lt_of_lt_of_le hz g3.size,btr hbel g3 (by omega)⟩
            case measure=>simp [intOf];omega
          | true =>
            by_cases b3:s.size=16
            · have HFk:=done (by rw [HCB.out,b1,b2];simp [b3])
              have b4:((s.size:Int) == 16)=true:=by rw [beq_iff_eq];omega
              have hFk:=HFk.out
              subst hFk
              clear next done HG2 HCB HG
              have k0' : ¬ k=0:=by omega
              have HSk:Hid (∀ w,Calls Tryz.prog 119 #[.int .i64 k] w fun e w'=>e=.returned (.int .i64 (rszV k))∧w'=w):=(show ∀ w,_ from fun w=>HS.out k w)
              have hr:rszV k≤4:=by unfold rszV;split <;> omega
              have HNk:Hid (∀ w,Calls Tryz.prog 55 #[.string (s.extract 8 (8 + rszV k))] w fun x w'=>x=.returned (.int .u64 (nm s 8 (8 + rszV k)))∧w'=w):=(show ∀ w,_ from fun w=>HN.out (rszV k) w (by omega))
              have hsl:∀ w,(Instr.slice 9 (.string s) (some (.int .i64 8)) (some (.int .i64 (8 + (rszV k:Int)))) none).run Tryz.prog w=.ok (.string (s.extract 8 (8 + rszV k))) w:=fun w=>by
                have:=slice_lh s 8 (8 + (rszV k:Int)) (by omega) (by omega) (by omega) w
                rwa [show (8 + (rszV k:Int)).toNat=8 + rszV k by omega] at this
              obtain ⟨v,hv⟩:∃ v,nm s 8 (8 + rszV k)=v:=⟨_,rfl⟩
              obtain ⟨Q,hQ⟩:∃ Q,s.extract 8 (8 + rszV k)=Q:=⟨_,rfl⟩
              rw [hv,hQ] at HNk
              simp only [hQ] at hsl
              have HV:Hid (nm s 8 (8 + rszV k)=v):=hv
              clear hv hQ
              obtain ⟨z,hz1⟩:∃ z,rszV k=z:=⟨_,rfl⟩
              rw [hz1] at HSk hr hsl
              have HK:Hid (¬ k=0):=k0'
              clear hz1 k0'
              go_wp2_with fail
              refine wp_region_grow (by kernel_rfl) (by kernel_rfl) ?_
              repeat (go_big_quiet_step (first | (go_at_call 118;exact quiet_gr (HCk.out _))))
              refine wpQuiet_nil ?_
              rintro w3 hw'
              have g3:=gr_elim hw'
              have d3:=d0.block (g3.block _ hz)
              have G3:Below w.heap.size w w3:=btr hbel g3 (by omega)
              clear hw' g3 d0 hbel
              have d3':=d3
              obtain ⟨⟨c0,c1,c2⟩,cf⟩:=d3'
              go_wp2_with fail
              refine (HSk.out _).mono ?_
              rintro x w4 ⟨rfl,rfl⟩
              go_wp2_with fail
              refine (HNk.out _).mono ?_
              rintro x w4 ⟨rfl,rfl⟩
              go_wp2_with fail
              have d20:W3 _ w.heap.size (5,k,v):=((d3.set0 5).set1 k).set2 v
              refine bodyPost_ret (resT (b:=w.heap.size) (t:=(5,k,v)) rfl rfl d20.c) rfl ?_
              exact ⟨by first | rw [HV.out] | rw [if_neg HK.out,HV.out],((G3.setCell (Nat.le_refl _) _).setCell (Nat.le_refl _) _).setCell (Nat.le_refl _) _⟩
            · have HNx:=next (by rw [HCB.out,b1,b2];simp [b3])
              have b4:((s.size:Int) == 16)=false:=by rw [beq_eq_false_iff_ne];omega
              clear next done HG2 HCB HG
              go_wp2_with fail
              refine wp_region_grow (by kernel_rfl) (by kernel_rfl) ?_
              repeat (go_big_quiet_step (first | (go_at_call 118;exact quiet_gr (HCk.out _))))
              refine wpQuiet_nil ?_
              rintro w3 hw'
              have g3:=gr_elim hw'
              clear hw'
              go_wp2_with fail
              go_roundw
              case rel=>exact ⟨k + 1,m,by omega,by omega,by go_num,HNx,d0.block (g3.block _ hz),Nat.lt_of_lt_of_le hz g3.size,btr hbel g3 (by omega)⟩
              case measure=>simp [intOf];omega
  · have e:oneV s=(0,0,0):=by unfold oneV;rw [if_neg k0,if_neg k1,if_neg k2,if_neg k3,if_neg k4]
    rw [e]
    have b0:(nm s 0 2 == 0)=false:=by simpa using k0
    have b1:(nm s 0 2 == 22)=false:=by simpa using k1
    have b2:(nm s 0 2 == 17)=false:=by simpa using k2
    have b3:(nm s 0 2 == 18)=false:=by simpa using k3
    have b4:(nm s 0 2 == 25)=false:=by simpa using k4
    clear k0 k1 k2 k3 k4 H8 e
    generalize nm s 0 2=N at *
    go_enter Tryz.func88,Tryz.ntmps88
    go_wp2_with fail
    refine (H2.out _).mono ?_
    rintro x w1 ⟨rfl,rfl⟩
    go_wp2_with fail
    refine bodyPost_ret (resT (b:=w.heap.size) (t:=(0,0,0)) rfl rfl (C3.new w (0,0,0))) rfl ?_
    exact ⟨rfl,by go_grown⟩
theorem ext_all (x:ByteArray) (k:Nat) (h:x.size≤k):x.extract 0 k=x:=by
 apply ba_ext
 have hl:x.data.toList.length≤k:=by rw [len_size];exact h
 simp only [ByteArray.data_extract,Array.toList_extract]
 rw [List.extract_eq_take_drop,List.drop_zero,Nat.sub_zero,List.take_of_length_le hl]
theorem size_nm (d:ByteArray) (h:4≤d.size):sizeV d=nm d 2 4:=by
 have hz:(d.extract 2 4).size=2:=by rw [ByteArray.size_extract];omega
 have hle:((2:Int))≤((d.extract 2 4).size:Int):=by omega
 unfold sizeV RS.num numV takeV nm
 rw [if_pos ⟨rfl,by decide,hle⟩]
 show numOf ((d.extract 2 4).extract 0 2).data.toList=_
 rw [ext_all _ 2 (by omega)]
theorem over_33 {n:Nat} {d:ByteArray} {acc:List A} (hn:d.size≤n) (h:32 < acc.length) :
    (if (decGo n d acc).2=0∧32 < (decGo n d acc).1.length then (([]:List A),(44:Int)) else decGo n d acc).1=[]∧(if (decGo n d acc).2=0∧32 < (decGo n d acc).1.length then (([]:List A),(44:Int)) else decGo n d acc).2≠0:=by
  by_cases h0:(decGo n d acc).2=0
  · have h1:=(decGo_is n d acc hn h0).1
    rw [if_pos ⟨h0,by omega⟩]
    exact ⟨rfl,by decide⟩
  · rw [if_neg (fun x=>h0 x.1)]
    exact ⟨dec_bad _ _ _ h0,h0⟩
theorem rdec_any (d:ByteArray) (w:World) (hs:d.size≤maxLen) :
    Calls Tryz.prog 58 #[.string d] w fun x w'=>∃ ad cap E,x=.returned (.tuple #[.slice ad (decR d).1.length cap,.int .i64 E])∧(E=0↔(decR d).2=0)∧TsF w.heap.size w' ad (decR d).1∧Below w.heap.size w w':=by
  have HO1:Hid (∀ (s:ByteArray) (w:World),8≤s.size→s.size≤maxLen→Calls Tryz.prog 88 #[.string s] w fun e w'=>e=.returned (tV (oneV s))∧Below w.heap.size w w'):=(show ∀ (s:ByteArray) (w:World),_ from fun s w a b=>one_any s w a b)
  have HNm:Hid (∀ (D:ByteArray) (w:World),Calls Tryz.prog 55 #[.string (D.extract 2 4)] w fun x w'=>x=.returned (.int .u64 (nm D 2 4))∧w'=w):=(show ∀ (D:ByteArray) (w:World),_ from fun D w=>rnm_any D 2 4 w (by omega))
  have HRi:Hid (∀ (a:A) (w:World),AW a→Calls Tryz.prog 89 #[tV a] w fun e w'=>e=.returned (.bool (rightB a))∧Below w.heap.size w w'):=(show ∀ (a:A) (w:World),_ from fun a w h=>rright_any a w h)
  have HBy:Hid (∀ (a:A) (w:World),rightB a=true→AW a→Calls Tryz.prog 90 #[tV a] w fun e w'=>e=.returned (.string (writeV a))∧Below w.heap.size w w'):=(show ∀ (a:A) (w:World),_ from fun a w h1 h2=>rbytes_any a w h1 h2)
  obtain ⟨Z,hZ⟩:∃ Z,decGo d.size d []=Z:=⟨_,rfl⟩
  have HR:Hid (decR d=if Z.2=0∧32 < Z.1.length then ([],44) else Z):=(show _=_ by rw [← hZ];rfl)
  have HZ:Hid (decGo d.size d []=Z):=hZ
  clear hZ
  generalize decR d=O at *
  go_enter Tryz.func58,Tryz.ntmps58
  go_wp2_with fail
  go_loopw [0,4] (fun dv lv wr=>∃ (D:ByteArray) (acc:List A),dv=.string D∧D.size≤d.size∧decGo D.size D acc=Z∧acc.length≤32∧wr.ownsRow w.heap.size 106 3 lv acc.length (flat acc)∧Below w.heap.size w wr) (fun dv _ _=>szOf dv)
  case atStart=>exact ⟨d,[],rfl,Nat.le_refl _,HZ.out,by simp,World.ownsRow_nil _ _ _ _,Below.refl _ _⟩
  case round =>
    obtain ⟨D,acc,rfl,hle,hgo,hacc,hown,hbel⟩:=hrel
    have HG:Hid (decGo D.size D acc=Z):=hgo
    obtain ⟨ad,cap,rfl⟩:=own_slice hown
    have HO:Hid (wr.ownsRow w.heap.size 106 3 (.slice ad acc.length cap) acc.length (flat acc)):=hown
    clear hgo hown
    by_cases hD:D.size=0
    · have he:D.toList.isEmpty=true:=by
        rw [ByteArray.toList_eq]
        have:D.data.toList.length=0:=by simpa using hD
        rw [List.length_eq_zero_iff.1 this]
        rfl
      have HG2:Hid ((acc,(0:Int))=Z):=(show _=_ by rw [← HG.out,decGo_end acc hD])
      have HT:Hid (TsF w.heap.size wr ad acc):=(show TsF w.heap.size wr ad acc by
        obtain ⟨a',c',hv,_,hT⟩:=own_ts HO.out
        cases hv
        exact hT)
      have hO:Hid (O=(acc,0)):=(show _=_ by rw [HR.out,← HG2.out,if_neg (fun h=>absurd h.2 (by show ¬ 32 < acc.length;omega))])
      clear HR HG2 HG hD
      go_wp2_with fail
      go_ret2
      rw [hO.out]
      exact ⟨ad,cap,0,rfl,by simp,HT.out,hbel⟩
    · have he:D.toList.isEmpty=false:=by
        rw [ByteArray.toList_eq]
        have h1:D.data.toList.length≠0:=by simpa using hD
        cases h:D.data.toList with
        | nil=>rw [h] at h1;exact absurd rfl h1
        | cons _ _=>rfl
      have bail:∀ E:Int,E≠0→firstE D=E→Hid (O=([],E)):=fun E hE0 hE=>(show _=_ by
        have hE':firstE D≠0:=by rw [hE];exact hE0
        rw [HR.out,← HG.out,decGo_stop acc hD hE',if_neg (fun h=>hE' h.1),hE])
      by_cases h4:D.size < 4
      · have h4':(D.size:Int) < 4:=by omega
        have hO:=bail 10 (by decide) (by unfold firstE;rw [if_pos h4])
        clear bail HG HR hD
        go_wp2_with fail
        go_ret2
        rw [hO.out]
        exact ⟨none,0,10,rfl,Iff.rfl,.inl rfl,hbel⟩
      · have h4' : ¬ (D.size:Int) < 4:=by omega
        have hsz:=size_nm D (by omega)
        have hsr:=sizeV_range D
        rw [hsz] at hsr
        obtain ⟨z0,z1⟩:=hsr
        have hsl:∀ w,(Instr.slice 9 (.string D) (some (.int .i64 2)) (some (.int .i64 4)) none).run Tryz.prog w=.ok (.string (D.extract 2 4)) w:=fun w=>slice_lh D 2 4 (by omega) (by omega) (by omega) w
        have HNu:Hid (∀ w,Calls Tryz.prog 55 #[.string (D.extract 2 4)] w fun x w'=>x=.returned (.int .u64 (nm D 2 4))∧w'=w):=(show ∀ w,_ from fun w=>HNm.out D w)
        by_cases h5:(D.size:Int) < sizeV D
        · have hO:=bail 10 (by decide) (by unfold firstE;rw [if_neg h4,if_pos h5])
          rw [hsz] at h5
          clear bail HG HR hD hsz
          generalize D.extract 2 4=X at *
          generalize nm D 2 4=N at *
          go_wp2_with fail
          refine (HNu.out _).mono ?_
          rintro x w1 ⟨rfl,rfl⟩
          go_wp2_with fail
          go_ret2
          rw [hO.out]
          exact ⟨none,0,10,rfl,Iff.rfl,.inl rfl,hbel⟩
        · by_cases h6:sizeV D < 8
          · have hO:=bail 11 (by decide) (by unfold firstE;rw [if_neg h4,if_neg h5,if_pos h6])
            rw [hsz] at h5 h6
            clear bail HG HR hD hsz
            generalize D.extract 2 4=X at *
            generalize nm D 2 4=N at *
            go_wp2_with fail
            refine (HNu.out _).mono ?_
            rintro x w1 ⟨rfl,rfl⟩
            go_wp2_with fail
            go_ret2
            rw [hO.out]
            exact ⟨none,0,11,rfl,Iff.rfl,.inl rfl,hbel⟩
          · obtain ⟨P,hP⟩:∃ P,D.extract 0 (nm D 2 4).toNat=P:=⟨_,rfl⟩
            have hE:firstE D=if rightB (readV P)=true∧writeV (readV P)=P then 0 else 11:=by
              unfold firstE
              rw [if_neg h4,if_neg h5,if_neg h6,hsz,hP]
            obtain ⟨or1,or2⟩:=one_read P
            have hAW:=one_aw P
            have hPs:(P.size:Int)=nm D 2 4:=by rw [← hP,ByteArray.size_extract];rw [hsz] at h5 h6;omega
            have HOne:Hid (∀ w,Calls Tryz.prog 88 #[.string P] w fun e w'=>e=.returned (tV (oneV P))∧Below w.heap.size w w'):=(show ∀ w,_ from fun w=>HO1.out P w (by rw [hsz] at h6;omega) (by rw [hsz] at h5;omega))
            have hsh:∀ w,(Instr.slice 9 (.string D) none (some (.int .i64 (nm D 2 4))) none).run Tryz.prog w=.ok (.string P) w:=fun w=>by
              rw [← hP]
              rw [hsz] at h5 h6
              exact slice_h D _ (by omega) (by omega) w
            have hAE:rightB (readV P)=true∧writeV (readV P)=P→firstA D=oneV P∧firstZ D=nm D 2 4:=fun hh=>by
              have hE0:firstE D=0:=by rw [hE,if_pos hh]
              refine ⟨?_,?_⟩
              · unfold firstA
                rw [if_pos hE0,hsz,hP,or2 hh]
              · unfold firstZ
                rw [if_pos hE0,hsz]
            rw [hsz] at h5 h6
            have HRi2:Hid (∀ w,Calls Tryz.prog 89 #[tV (oneV P)] w fun e w'=>e=.returned (.bool (rightB (oneV P)))∧Below w.heap.size w w'):=(show ∀ w,_ from fun w=>HRi.out _ w hAW)
            have HBy2:Hid (rightB (oneV P)=true→∀ w,Calls Tryz.prog 90 #[tV (oneV P)] w fun e w'=>e=.returned (.string (writeV (oneV P)))∧Below w.heap.size w w'):=(show _→∀ w,_ from fun hr w=>HBy.out _ w hr hAW)
            have HE:Hid (firstE D=if rightB (readV P)=true∧writeV (readV P)=P then 0 else 11):=hE
            have HOr:Hid (rightB (oneV P)=true∧writeV (oneV P)=P↔rightB (readV P)=true∧writeV (readV P)=P):=or1
            have HAE:Hid (rightB (readV P)=true∧writeV (readV P)=P→firstA D=oneV P∧firstZ D=nm D 2 4):=(show _→_ from hAE)
            have hrest:rightB (readV P)=true∧writeV (readV P)=P→firstE D=0:=fun hh=>by rw [hE,if_pos hh]
            clear or1 or2 hAE hE hP hAW HRi HBy HO1 hsz
            generalize D.extract 2 4=X at *
            obtain ⟨N,hN⟩:∃ N,nm D 2 4=N:=⟨_,rfl⟩
            rw [hN] at HNu hPs hsh HAE z0 z1 h5 h6
            clear hN
            generalize oneV P=a at *
            have bad : ¬ (rightB a=true∧writeV a=P)→Hid (O=([],11)):=fun hh=>bail 11 (by decide) (by rw [HE.out,if_neg (fun h=>hh (HOr.out.2 h))])
            have hbw:=hbel.size
            cases hr:rightB a with
            | false =>
              have hO:=bad (by rw [hr];simp)
              rw [hr] at HRi2
              clear bad bail HG HR hD HE HOr HAE hrest HBy2
              go_wp2_with fail
              refine (HNu.out _).mono ?_
              rintro x w1 ⟨rfl,rfl⟩
              go_wp2_with fail
              refine (HOne.out _).mono ?_
              rintro x w1 ⟨rfl,g1⟩
              have G1:Below w.heap.size w w1:=btr hbel g1 (by omega)
              have q:=C3.gr (C3.new w1 a) (by simp)
              have q0:=fun n=>(q n).1
              have q1:=fun n=>(q n).2.1
              have q2:=fun n=>(q n).2.2
              clear q g1
              go_wp2_with fail
              refine wp_region_grow (by kernel_rfl) (by kernel_rfl) ?_
              repeat (go_big_quiet_step (first | (go_at_call 89;exact quiet_gr (HRi2.out _))))
              refine wpQuiet_nil ?_
              rintro w3 hw'
              have g3:=gr_elim hw'
              clear q0 q1 q2 hw'
              go_wp2_with fail
              go_ret2
              rw [hO.out]
              exact ⟨none,0,11,rfl,Iff.rfl,.inl rfl,btr (G1.alloc (by have:=G1.size;omega) _) g3 (by have:=G1.size;first | (simp;done) | (simp;omega))⟩
            | true =>
              have HBy3:Hid (∀ w,Calls Tryz.prog 90 #[tV a] w fun e w'=>e=.returned (.string (writeV a))∧Below w.heap.size w w'):=(show ∀ w,_ from HBy2.out hr)
              rw [hr] at HRi2
              by_cases hw:writeV a=P
              · have hq:(!(P.toList == P.toList))=false:=by simp
                have hh:=HOr.out.1 ⟨hr,hw⟩
                obtain ⟨fa,fz⟩:=HAE.out hh
                have fe:=hrest hh
                have f:=first_of fe
                have hr2:=first_rest fe
                rw [hw] at HBy3
                have HS:Hid (decGo (D.extract N.toNat D.size).size (D.extract N.toNat D.size) (acc ++ [a])=Z):=(show _=_ by
                  have:=decGo_step acc hD fe
                  rw [fa,fz,if_pos hacc] at this
                  rw [← HG.out,this])
                rw [fz] at hr2
                have hsl2:∀ w,(Instr.slice 9 (.string D) (some (.int .i64 N)) none none).run Tryz.prog w=.ok (.string (D.extract N.toNat D.size)) w:=fun w=>slice_l D N (by omega) (by omega) w
                clear bad bail HG hD HE HOr HAE hrest HBy2 fa fz fe f hh hw hr
                generalize D.extract N.toNat D.size=D' at *
                have HR':Hid (D'.size < D.size):=hr2
                clear hr2
                go_wp2_with fail
                refine (HNu.out _).mono ?_
                rintro x w1 ⟨rfl,rfl⟩
                go_wp2_with fail
                refine (HOne.out _).mono ?_
                rintro x w1 ⟨rfl,g1⟩
                have G1:Below w.heap.size w w1:=btr hbel g1 (by omega)
                have ho1:=own_below HO.out g1
                have s1:=G1.size
                have q:=C3.gr (C3.new w1 a) (by simp)
                have q0:=fun n=>(q n).1
                have q1:=fun n=>(q n).2.1
                have q2:=fun n=>(q n).2.2
                have HO1':Hid (w1.ownsRow w.heap.size 106 3 (.slice ad acc.length cap) acc.length (flat acc)):=ho1
                clear q g1 ho1 hbel HO
                go_wp2_with fail
                refine wp_region_grow (by kernel_rfl) (by kernel_rfl) ?_
                repeat (go_big_quiet_step (first | (go_at_call 89;exact quiet_gr (HRi2.out _)) | (go_at_call 90;exact quiet_gr (HBy3.out _))))
                refine wpQuiet_nil ?_
                rintro w3 hw'
                have g3:=gr_elim hw'
                have d3:C3 w3 w1.heap.size 0 a:=(C3.new w1 a).below (by simp) g3
                have G3:Below w.heap.size w w3:=btr (G1.alloc s1 _) g3 (by first | (simp;done) | (simp;omega))
                have HO3:Hid (w3.ownsRow w.heap.size 106 3 (.slice ad acc.length cap) acc.length (flat acc)):=own_below (HO1'.out.alloc _) g3
                have s3:=G3.size
                clear q0 q1 q2 hw' g3 G1 HO1'
                obtain ⟨c0,c1,c2⟩:=d3
                obtain ⟨b,hb⟩:∃ b,w1.heap.size=b:=⟨_,rfl⟩
                rw [hb] at c0 c1 c2 ⊢
                clear hb
                have hacc':acc.length≤1000:=by omega
                go_wp2_with (at_builtin;refine wpList_app rfl (.tmp 37) (.tmp 39) rfl w.heap.size _ _ _ rfl (HO3.out.alloc _) (some ⟨w3.heap.size,0,none⟩) 1 [a] 1 rfl rfl ?c0 ?c1 ?c2 ?_)
                case c0=>exact ts_new w3 a
                case c1=>first | (simp;done) | (simp;omega)
                case c2=>first | (simp;done) | (simp;omega)
                · intro v' w4 hown' hgrow
                  have R1:w4.ownsRow w.heap.size 106 3 v' (acc ++ [a]).length (flat (acc ++ [a])):=by
                    simp only [List.length_append,flat_append]
                    exact hown'
                  have R2:Below w.heap.size w w4:=(G3.alloc s3 _).grown hgrow (by first | (simp;done) | (simp;omega)) (fun q hq=>by have:=(HO3.out.lt q hq).1;omega)
                  have hln:(acc ++ [a]).length=acc.length + 1:=by simp
                  clear hown' hgrow HO3 G3 c0 c1 c2
                  generalize acc ++ [a]=acc2 at *
                  obtain ⟨ad2,cap2,rfl⟩:=own_slice R1
                  have HR1:Hid (w4.ownsRow w.heap.size 106 3 (.slice ad2 acc2.length cap2) acc2.length (flat acc2)):=R1
                  clear R1
                  by_cases h32:32 < acc2.length
                  · have h32':(32:Int) < acc2.length:=by omega
                    have hO:Hid (O.1=[]∧O.2≠0):=(show _∧_ from by
                      have:=over_33 (n:=D'.size) (d:=D') (acc:=acc2) (Nat.le_refl _) h32
                      rw [HS.out] at this
                      rw [HR.out]
                      exact this)
                    clear HR HS
                    go_wp2_with fail
                    go_ret2
                    obtain ⟨o1,o2⟩:=hO.out
                    rw [o1]
                    exact ⟨none,0,44,rfl,⟨fun h=>absurd h (by decide),fun h=>absurd h o2⟩,.inl rfl,R2⟩
                  · have h32' : ¬ (32:Int) < acc2.length:=by omega
                    go_wp2_with fail
                    go_roundw
                    case rel=>exact ⟨D',acc2,rfl,by have:=HR'.out;omega,HS.out,by omega,HR1.out,R2⟩
                    case measure=>simpa [szOf] using HR'.out
              · have hO:=bad (fun h=>hw h.2)
                have hq:=str_ne hw
                obtain ⟨S,hS⟩:∃ S,writeV a=S:=⟨_,rfl⟩
                rw [hS] at HBy3 hq
                clear bad bail HG HR hD HE HOr HAE hrest HBy2 hw hS hr
                go_wp2_with fail
                refine (HNu.out _).mono ?_
                rintro x w1 ⟨rfl,rfl⟩
                go_wp2_with fail
                refine (HOne.out _).mono ?_
                rintro x w1 ⟨rfl,g1⟩
                have G1:Below w.heap.size w w1:=btr hbel g1 (by omega)
                have q:=C3.gr (C3.new w1 a) (by simp)
                have q0:=fun n=>(q n).1
                have q1:=fun n=>(q n).2.1
                have q2:=fun n=>(q n).2.2
                clear q g1
                go_wp2_with fail
                refine wp_region_grow (by kernel_rfl) (by kernel_rfl) ?_
                repeat (go_big_quiet_step (first | (go_at_call 89;exact quiet_gr (HRi2.out _)) | (go_at_call 90;exact quiet_gr (HBy3.out _))))
                refine wpQuiet_nil ?_
                rintro w3 hw'
                have g3:=gr_elim hw'
                clear q0 q1 q2 hw'
                go_wp2_with fail
                go_ret2
                rw [hO.out]
                exact ⟨none,0,11,rfl,Iff.rfl,.inl rfl,btr (G1.alloc (by have:=G1.size;omega) _) g3 (by have:=G1.size;first | (simp;done) | (simp;omega))⟩
end Go.Proofs.YtlcbfdiohcbpbaaGreatDoor

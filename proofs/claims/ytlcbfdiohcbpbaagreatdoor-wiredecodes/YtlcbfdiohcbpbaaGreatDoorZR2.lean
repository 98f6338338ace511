import Derived.Test.YtlcbfdiohcbpbaaGreatDoorZR1
namespace Go.Proofs.YtlcbfdiohcbpbaaGreatDoor
set_option maxRecDepth 20000
set_option maxHeartbeats 16000000
open Go.ChangeShapes Go.WideShapes Go.ChangeAt Go.RowKit
set_option linter.unusedVariables false
theorem built_M (K:Int):Tryz.prog.built 33 [(0,.int .i64 K)]=some (msC { ms0 with kind:=K }):=by kernel_rfl
theorem build_M {ops:Array Oper} {rest:List Oper} {op:Oper} {a:Go.Act} {w:World} {Q:Exit→Go.Act→World→Prop} (hgd:op.guard=none) (x:Operand) (ho:op.op=.build 33 #[(0,x)])
    (K:Int) (hx:a.eval x=.int .i64 K)
    (h:wpList Tryz.prog ops Q rest (a.put op.dst (msV { ms0 with kind:=K })) w):wpList Tryz.prog ops Q (op :: rest) a w:=by
  have hf:Tryz.prog.built 33 ((#[(0,x)]:Array (Nat × Operand)).map fun (i,x)=>(i,a.eval x)).toList=some (msC { ms0 with kind:=K }):=by
    have e:((#[(0,x)]:Array (Nat × Operand)).map fun (i,x)=>(i,a.eval x)).toList=[(0,.int .i64 K)]:=by simp [hx]
    rw [e];exact built_M K
  refine wpList_build hgd 33 _ ho (by rw [hf];rfl) ?_
  rw [hf]
  exact h
structure Keeps (n:Nat) (w V:World):Prop where
 size:w.heap.size≤V.heap.size
 block:∀ g,n≤g→g < w.heap.size→V.heap[g]? = w.heap[g]?
theorem Keeps.refl (n:Nat) (w:World):Keeps n w w:=⟨Nat.le_refl _,fun _ _ _=>rfl⟩
abbrev RdM (d:ByteArray) (w:World) (e:Ending) (w':World):Prop:=∃ m:Ms,e=.returned (msV m)∧m.msg=readM d∧(∀ V,Keeps w.heap.size w' V→MW V m)∧MU m∧Below w.heap.size w w'
theorem mw0 (w:World) (k x:Int):MW w { ms0 with kind:=k,xid:=x }:=have h:=ms0_w w;⟨h.1,h.2,h.3,h.4,h.5,h.6,h.7,h.8,h.9,h.10⟩
theorem eu0:EU en0:=⟨by decide,by decide,by decide,by decide⟩
theorem mu0 (k x:Int):MU { ms0 with kind:=k,xid:=x }:=⟨eu0,by simp [ms0],by simp [ms0,en0],by simp [ms0,en0],by simp [ms0],by simp [ms0]⟩
theorem kp2 {n:Nat} {V:World} {m:Ms} (k:∀ V',Keeps n V V'→MW V' m∧MU m):(∀ V',Keeps n V V'→MW V' m)∧MU m:=⟨fun V' q=>(k V' q).1,(k V (Keeps.refl n V)).2⟩
theorem mwu {m:Ms} (w:World) (h1:m.en=en0) (h2:m.ts=[]) (h3:m.ga=none) (h4:m.gb=[]) (h5:m.aa=none) (h6:m.la=[]) (hd:m.dat.size≤100000):MW w m∧MU m:=by
 have h:=ms0_w w
 have g:=mu0 0 0
 obtain ⟨kind,xid,cmd,chk,en,ts,gid,gkd,ga,gb,gc,mid,mra,mbu,typ,cod,prt,live,aa,la,ca,dat⟩:=m
 simp only at h1 h2 h3 h4 h5 h6 hd
 subst h1 h2 h3 h4 h5 h6
 exact ⟨⟨h.1,h.2,h.3,h.4,h.5,h.6,h.7,h.8,h.9,hd⟩,⟨g.1,g.2,g.3,g.4,g.5,g.6⟩⟩
theorem mwa {m:Ms} (w:World) (h1:m.en=en0) (h2:m.ts=[]) (h3:m.ga=none) (h4:m.gb=[]) (h5:Ts w m.aa m.la) (h6:m.la.length≤1000) (h7:AWs m.la) (hd:m.dat.size≤100000):MW w m∧MU m:=by
 have h:=ms0_w w
 have g:=mu0 0 0
 obtain ⟨kind,xid,cmd,chk,en,ts,gid,gkd,ga,gb,gc,mid,mra,mbu,typ,cod,prt,live,aa,la,ca,dat⟩:=m
 simp only at h1 h2 h3 h4 h5 h6 h7 hd
 subst h1 h2 h3 h4
 exact ⟨⟨h.1,h.2,h.3,h.4,h.5,h.6,h.7,h5,h6,hd⟩,⟨g.1,g.2,g.3,g.4,h7,g.6⟩⟩
theorem TsF.here {k b c:Nat} {n:Nat} {x y z v:World} {a:Option Addr} {l:List A} (h:TsF k x a l) (o:Only b x y) (p:Only c y z) (hb:b < k) (hc:c < k) (q:Keeps n z v) (hn:n≤k):Ts v a l :=
 (h.keep (by have:=q.size;rw [p.size,o.size] at this;exact this) fun g hg hx=>(q.block g (by omega) (by rw [p.size,o.size];exact hx)).trans ((p.block g (by omega)).trans (o.block g (by omega)))).ts
theorem bksR_aw:∀ (k:Nat) (r:RS),∀ x ∈ bksR k r,AWs x.2.2
  | 0,_,x,h=>by cases h
  | k + 1,r,x,h=>by
    unfold bksR at h
    split at h
    · rcases List.mem_cons.1 h with e | h
      · subst e;exact acts_aw _
      · exact bksR_aw k _ x h
    · cases h
theorem aw_b3 {l:List Bk} {r:RS} (e:l.map Bk.b3=gpB r):∀ b ∈ l,AWs b.l:=fun b hb=>bksR_aw _ _ b.b3 (show b.b3 ∈ gpB r from e ▸ List.mem_map_of_mem hb)
theorem mwg {m:Ms} (w:World) (h1:m.en=en0) (h2:m.ts=[]) (h3:Bs w m.ga m.gb) (h4:m.gb.length≤100000) (h7:∀ b ∈ m.gb,AWs b.l) (h5:m.aa=none) (h6:m.la=[]) (hd:m.dat.size≤100000):MW w m∧MU m:=by
 have h:=ms0_w w
 have g:=mu0 0 0
 obtain ⟨kind,xid,cmd,chk,en,ts,gid,gkd,ga,gb,gc,mid,mra,mbu,typ,cod,prt,live,aa,la,ca,dat⟩:=m
 simp only at h1 h2 h3 h4 h5 h6 h7 hd
 subst h1 h2 h5 h6
 exact ⟨⟨h.1,h.2,h.3,h.4,h.5,h3,h4,h.8,h.9,hd⟩,⟨g.1,g.2,g.3,g.4,g.5,h7⟩⟩
theorem BsF.here {k b c:Nat} {n:Nat} {x y z v:World} {a:Option Addr} {l:List Bk} (h:BsF k x a l) (o:Only b x y) (p:Only c y z) (hb:b < k) (hc:c < k) (q:Keeps n z v) (hn:n≤k):Bs v a l :=
 (h.keep (by have:=q.size;rw [p.size,o.size] at this;exact this) fun g hg hx=>(q.block g (by omega) (by rw [p.size,o.size];exact hx)).trans ((p.block g (by omega)).trans (o.block g (by omega)))).bs
theorem mwf {m:Ms} (w:World) (h1:EW w m.en) (h2:Mt.Ts w m.en.ta m.ts) (h3:m.en.tl=m.ts.length) (h4:m.ts.length≤1000) (h5:m.ts.length≤m.en.tc) (u:EU m.en) (ut:Mt.TWs m.ts) (ua:AWs m.en.la) (uw:AWs m.en.lw) (e1:m.ga=none) (e2:m.gb=[]) (e3:m.aa=none) (e4:m.la=[]) (hd:m.dat.size≤100000):MW w m∧MU m:=by
 have h:=ms0_w w
 have g:=mu0 0 0
 obtain ⟨kind,xid,cmd,chk,en,ts,gid,gkd,ga,gb,gc,mid,mra,mbu,typ,cod,prt,live,aa,la,ca,dat⟩:=m
 simp only at h1 h2 h3 h4 h5 u ut ua uw e1 e2 e3 e4 hd
 subst e1 e2 e3 e4
 exact ⟨⟨h1,h2,h3,h4,h5,h.6,h.7,h.8,h.9,hd⟩,⟨u,ut,ua,uw,g.5,g.6⟩⟩
theorem EF.here {k b c:Nat} {n:Nat} {x y z v:World} {e:En} (h:EF k x e) (o:Only b x y) (p:Only c y z) (hb:b < k) (hc:c < k) (q:Keeps n z v) (hn:n≤k):EW v e :=
 ⟨h.a.here o p hb hc q hn,h.w.here o p hb hc q hn,h.na,h.nw⟩
theorem mtF_here {k b c:Nat} {n:Nat} {x y z v:World} {a:Option Addr} {l:List Mt.T} (h:Mt.TsF k x a l) (o:Only b x y) (p:Only c y z) (hb:b < k) (hc:c < k) (q:Keeps n z v) (hn:n≤k):Mt.Ts v a l :=
 (h.keep (by have:=q.size;rw [p.size,o.size] at this;exact this) fun g hg hx=>(q.block g (by omega) (by rw [p.size,o.size];exact hx)).trans ((p.block g (by omega)).trans (o.block g (by omega)))).ts
theorem rd_set (d:ByteArray) (w:World) (hs:d.size≤65535) (hd:Ct w):(hdR d).s.size≤65535∧RJ (hdR d)∧∃ W0,W0.there w.heap.size 0 26∧W0.heap.size=w.heap.size + 1∧Below w.heap.size w W0∧Hid (w.alloc (.cells #[.int .i64 0,.int .i64 0,.int .i64 0,.bool false,.int .i64 0,.int .i64 0,.slice none 0 0,.slice none 0 0,.slice none 0 0,.bool false,.int .u64 0,.int .u64 0,.int .i64 0,.int .i64 0,.int .i64 0,.int .i64 0,.slice none 0 0,.int .i64 0,.int .i64 0,.int .i64 0,.int .i64 0,.int .i64 0,.int .i64 0,.bool false,.slice none 0 0,.string ⟨#[]⟩] 33)=W0)∧Hid (Calls Tryz.prog 45 #[.string d] W0 fun x w'=>x=.returned (.pointer (some ⟨w.heap.size + 1,0,none⟩))∧Rd w' (w.heap.size + 1) d 0∧w'.there w.heap.size 0 26∧w'.heap.size=w.heap.size + 2∧Below w.heap.size w w')∧Hid (∀ w_1,Rd w_1 (w.heap.size + 1) d 0→Calls Tryz.prog 47 #[.pointer (some ⟨w.heap.size + 1,0,none⟩),.int .i64 1] w_1 fun x w'=>x=.returned (.string ((⟨d,0⟩:RS).bytes 1))∧Rd w' (w.heap.size + 1) ((⟨d,0⟩:RS).jump 1).s ((⟨d,0⟩:RS).jump 1).e∧Only (w.heap.size + 1) w_1 w')∧Hid (∀ w_1,Rd w_1 (w.heap.size + 1) ((⟨d,0⟩:RS).jump 1).s ((⟨d,0⟩:RS).jump 1).e→Calls Tryz.prog 48 #[.pointer (some ⟨w.heap.size + 1,0,none⟩),.int .i64 1] w_1 fun x w'=>x=.returned (.int .i64 (hdK d))∧Rd w' (w.heap.size + 1) (((⟨d,0⟩:RS).jump 1).skip 1).s (((⟨d,0⟩:RS).jump 1).skip 1).e∧Only (w.heap.size + 1) w_1 w')∧Hid (∀ w_1,Rd w_1 (w.heap.size + 1) (((⟨d,0⟩:RS).jump 1).skip 1).s (((⟨d,0⟩:RS).jump 1).skip 1).e→Calls Tryz.prog 47 #[.pointer (some ⟨w.heap.size + 1,0,none⟩),.int .i64 2] w_1 fun x w'=>x=.returned (.string ((((⟨d,0⟩:RS).jump 1).skip 1).bytes 2))∧Rd w' (w.heap.size + 1) ((((⟨d,0⟩:RS).jump 1).skip 1).jump 2).s ((((⟨d,0⟩:RS).jump 1).skip 1).jump 2).e∧Only (w.heap.size + 1) w_1 w')∧Hid (∀ w_1,Rd w_1 (w.heap.size + 1) ((((⟨d,0⟩:RS).jump 1).skip 1).jump 2).s ((((⟨d,0⟩:RS).jump 1).skip 1).jump 2).e→Calls Tryz.prog 48 #[.pointer (some ⟨w.heap.size + 1,0,none⟩),.int .i64 4] w_1 fun x w'=>x=.returned (.int .i64 (hdX d))∧Rd w' (w.heap.size + 1) (hdR d).s (hdR d).e∧Only (w.heap.size + 1) w_1 w'):=by
 have hs':d.size≤maxLen:=by unfold maxLen;omega
 have z1:=Nat.le_trans (RS.jump_size (⟨d,0⟩:RS) 1) hs'
 have z2:=Nat.le_trans (RS.skip_size ((⟨d,0⟩:RS).jump 1) 1) z1
 have z3:=Nat.le_trans (RS.jump_size (((⟨d,0⟩:RS).jump 1).skip 1) 2) z2
 have z4:(hdR d).s.size≤65535:=Nat.le_trans (RS.skip_size _ _) (Nat.le_trans (RS.jump_size _ _) (Nat.le_trans (RS.skip_size _ _) (Nat.le_trans (RS.jump_size _ _) hs)))
 have hj:RJ (hdR d):=(((RJ.jump (r:=⟨d,0⟩) (fun h=>absurd rfl h) 1).skip 1).jump 2).skip 4
 have hwp:=hd.a.pos
 obtain ⟨W0,hW0⟩:∃ W0,mx w ms0=W0:=⟨_,rfl⟩
 have t0:W0.there w.heap.size 0 26:=hW0 ▸ there_new w (msC ms0) 33
 have s0:W0.heap.size=w.heap.size + 1:=by rw [← hW0];simp
 have g0:Below w.heap.size w W0:=by rw [← hW0];go_grown
 have HW0:Hid (w.alloc (.cells #[.int .i64 0,.int .i64 0,.int .i64 0,.bool false,.int .i64 0,.int .i64 0,.slice none 0 0,.slice none 0 0,.slice none 0 0,.bool false,.int .u64 0,.int .u64 0,.int .i64 0,.int .i64 0,.int .i64 0,.int .i64 0,.slice none 0 0,.int .i64 0,.int .i64 0,.int .i64 0,.int .i64 0,.int .i64 0,.int .i64 0,.bool false,.slice none 0 0,.string ⟨#[]⟩] 33)=W0):=hW0
 clear hW0
 have HR:Hid (Calls Tryz.prog 45 #[.string d] W0 fun x w'=>x=.returned (.pointer (some ⟨w.heap.size + 1,0,none⟩))∧Rd w' (w.heap.size + 1) d 0∧w'.there w.heap.size 0 26∧w'.heap.size=w.heap.size + 2∧Below w.heap.size w w'):=(show Calls _ _ _ _ _ from (rd_any d W0).mono fun x w' ⟨h1,h2,h3,h4⟩=>⟨by rw [h1,s0],s0 ▸ h2,there_block t0 (h3.block _ (by omega)),by rw [h4,s0],btr g0 h3 (Nat.le_refl _)⟩)
 have N1:Hid (∀ w_1,Rd w_1 (w.heap.size + 1) d 0→Calls Tryz.prog 47 #[.pointer (some ⟨w.heap.size + 1,0,none⟩),.int .i64 1] w_1 fun x w'=>x=.returned (.string ((⟨d,0⟩:RS).bytes 1))∧Rd w' (w.heap.size + 1) ((⟨d,0⟩:RS).jump 1).s ((⟨d,0⟩:RS).jump 1).e∧Only (w.heap.size + 1) w_1 w'):=(show ∀ w_1,Rd w_1 (w.heap.size + 1) d 0→_ from fun w_1 h=>bytesR (w.heap.size + 1) (⟨d,0⟩:RS) 1 w_1 h)
 have N2:Hid (∀ w_1,Rd w_1 (w.heap.size + 1) ((⟨d,0⟩:RS).jump 1).s ((⟨d,0⟩:RS).jump 1).e→Calls Tryz.prog 48 #[.pointer (some ⟨w.heap.size + 1,0,none⟩),.int .i64 1] w_1 fun x w'=>x=.returned (.int .i64 (hdK d))∧Rd w' (w.heap.size + 1) (((⟨d,0⟩:RS).jump 1).skip 1).s (((⟨d,0⟩:RS).jump 1).skip 1).e∧Only (w.heap.size + 1) w_1 w'):=(show ∀ w_1,Rd w_1 (w.heap.size + 1) _ _→_ from fun w_1 h=>n1R (w.heap.size + 1) ((⟨d,0⟩:RS).jump 1) w_1 z1 h)
 have N3:Hid (∀ w_1,Rd w_1 (w.heap.size + 1) (((⟨d,0⟩:RS).jump 1).skip 1).s (((⟨d,0⟩:RS).jump 1).skip 1).e→Calls Tryz.prog 47 #[.pointer (some ⟨w.heap.size + 1,0,none⟩),.int .i64 2] w_1 fun x w'=>x=.returned (.string ((((⟨d,0⟩:RS).jump 1).skip 1).bytes 2))∧Rd w' (w.heap.size + 1) ((((⟨d,0⟩:RS).jump 1).skip 1).jump 2).s ((((⟨d,0⟩:RS).jump 1).skip 1).jump 2).e∧Only (w.heap.size + 1) w_1 w'):=(show ∀ w_1,Rd w_1 (w.heap.size + 1) _ _→_ from fun w_1 h=>bytesR (w.heap.size + 1) (((⟨d,0⟩:RS).jump 1).skip 1) 2 w_1 h)
 have N4:Hid (∀ w_1,Rd w_1 (w.heap.size + 1) ((((⟨d,0⟩:RS).jump 1).skip 1).jump 2).s ((((⟨d,0⟩:RS).jump 1).skip 1).jump 2).e→Calls Tryz.prog 48 #[.pointer (some ⟨w.heap.size + 1,0,none⟩),.int .i64 4] w_1 fun x w'=>x=.returned (.int .i64 (hdX d))∧Rd w' (w.heap.size + 1) (hdR d).s (hdR d).e∧Only (w.heap.size + 1) w_1 w'):=(show ∀ w_1,Rd w_1 (w.heap.size + 1) _ _→_ from fun w_1 h=>n4R (w.heap.size + 1) ((((⟨d,0⟩:RS).jump 1).skip 1).jump 2) w_1 z3 h)
 exact ⟨z4,hj,W0,t0,s0,g0,HW0,HR,N1,N2,N3,N4⟩
theorem rd_v {d:ByteArray} {w w3:World} (K:Int) (t3:w3.there w.heap.size 0 26) (s3:w3.heap.size=w.heap.size + 2) (g3:Below w.heap.size w w3) (r3:Rd w3 (w.heap.size + 1) (((⟨d,0⟩:RS).jump 1).skip 1).s (((⟨d,0⟩:RS).jump 1).skip 1).e):(w3.alloc (.cells #[.int .i64 0,.int .i64 0,.int .i64 0,.bool false,.int .i64 0,.int .i64 0,.slice none 0 0,.slice none 0 0,.slice none 0 0,.bool false,.int .u64 0,.int .u64 0,.int .i64 0,.int .i64 0,.int .i64 0,.int .i64 0,.slice none 0 0,.int .i64 0,.int .i64 0,.int .i64 0,.int .i64 0,.int .i64 0,.int .i64 0,.bool false,.slice none 0 0,.string ⟨#[]⟩] 33)).there (w.heap.size + 2) 0 26∧Hid (∀ V,Bm V (w.heap.size + 2) { ms0 with kind:=K }→V.there (w.heap.size + 2) 0 26→Only (w.heap.size + 2) (w3.alloc (.cells #[.int .i64 0,.int .i64 0,.int .i64 0,.bool false,.int .i64 0,.int .i64 0,.slice none 0 0,.slice none 0 0,.slice none 0 0,.bool false,.int .u64 0,.int .u64 0,.int .i64 0,.int .i64 0,.int .i64 0,.int .i64 0,.slice none 0 0,.int .i64 0,.int .i64 0,.int .i64 0,.int .i64 0,.int .i64 0,.int .i64 0,.bool false,.slice none 0 0,.string ⟨#[]⟩] 33)) V→Bm V (w.heap.size + 2) { ms0 with kind:=K }∧V.there (w.heap.size + 2) 0 26∧V.there w.heap.size 0 26∧Rd V (w.heap.size + 1) (((⟨d,0⟩:RS).jump 1).skip 1).s (((⟨d,0⟩:RS).jump 1).skip 1).e∧Below w.heap.size w V∧V.heap.size=w.heap.size + 3):=by
 have HA:Hid (Below w3.heap.size w3 (w3.alloc (.cells #[.int .i64 0,.int .i64 0,.int .i64 0,.bool false,.int .i64 0,.int .i64 0,.slice none 0 0,.slice none 0 0,.slice none 0 0,.bool false,.int .u64 0,.int .u64 0,.int .i64 0,.int .i64 0,.int .i64 0,.int .i64 0,.slice none 0 0,.int .i64 0,.int .i64 0,.int .i64 0,.int .i64 0,.int .i64 0,.int .i64 0,.bool false,.slice none 0 0,.string ⟨#[]⟩] 33))):=(show Below _ _ _ by go_grown)
 have hY:(w3.alloc (.cells #[.int .i64 0,.int .i64 0,.int .i64 0,.bool false,.int .i64 0,.int .i64 0,.slice none 0 0,.slice none 0 0,.slice none 0 0,.bool false,.int .u64 0,.int .u64 0,.int .i64 0,.int .i64 0,.int .i64 0,.int .i64 0,.slice none 0 0,.int .i64 0,.int .i64 0,.int .i64 0,.int .i64 0,.int .i64 0,.int .i64 0,.bool false,.slice none 0 0,.string ⟨#[]⟩] 33)).there (w.heap.size + 2) 0 26:=(show World.there _ _ _ _ by rw [← s3];exact there_new w3 (msC ms0) 33)
 have HV:Hid (∀ V,Bm V (w.heap.size + 2) { ms0 with kind:=K }→V.there (w.heap.size + 2) 0 26→Only (w.heap.size + 2) (w3.alloc (.cells #[.int .i64 0,.int .i64 0,.int .i64 0,.bool false,.int .i64 0,.int .i64 0,.slice none 0 0,.slice none 0 0,.slice none 0 0,.bool false,.int .u64 0,.int .u64 0,.int .i64 0,.int .i64 0,.int .i64 0,.int .i64 0,.slice none 0 0,.int .i64 0,.int .i64 0,.int .i64 0,.int .i64 0,.int .i64 0,.int .i64 0,.bool false,.slice none 0 0,.string ⟨#[]⟩] 33)) V→Bm V (w.heap.size + 2) { ms0 with kind:=K }∧V.there (w.heap.size + 2) 0 26∧V.there w.heap.size 0 26∧Rd V (w.heap.size + 1) (((⟨d,0⟩:RS).jump 1).skip 1).s (((⟨d,0⟩:RS).jump 1).skip 1).e∧Below w.heap.size w V∧V.heap.size=w.heap.size + 3):=(show ∀ V,_ from fun V bV tV oV=>by
  have e:∀ c,c < w.heap.size + 2→V.heap[c]? = w3.heap[c]?:=fun c hc=>(oV.block c (by omega)).trans (HA.out.block c (by omega))
  refine ⟨bV,tV,there_block t3 (e _ (by omega)),?_,oV.belowK (by omega) (btr g3 HA.out (Nat.le_refl _)),?_⟩
  ·have q:=e (w.heap.size + 1) (by omega)
   exact ⟨(World.cell?_of_block q).trans r3.c0,(World.cell?_of_block q).trans r3.c1,(World.frozen?_of_block q).trans r3.f0,(World.frozen?_of_block q).trans r3.f1⟩
  ·rw [oV.size];simp;omega)
 exact ⟨hY,HV⟩
theorem rd_u {d:ByteArray} {w W3 w5:World} {K:Int} (X:Int) (b3:Bm W3 (w.heap.size + 2) { ms0 with kind:=K }) (y3:W3.there (w.heap.size + 2) 0 26) (t3':W3.there w.heap.size 0 26) (g3':Below w.heap.size w W3) (s3':W3.heap.size=w.heap.size + 3) (r5:Rd w5 (w.heap.size + 1) (hdR d).s (hdR d).e) (O5:Only (w.heap.size + 1) W3 w5):∃ U,w5.setCell ⟨w.heap.size + 2,1,none⟩ (.int .i64 X)=U∧Bm U (w.heap.size + 2) ({ ms0 with kind:=K,xid:=X }:Ms)∧U.there (w.heap.size + 2) 0 26∧U.there w.heap.size 0 26∧Rd U (w.heap.size + 1) (hdR d).s (hdR d).e∧Below w.heap.size w U∧U.heap.size=w.heap.size + 3∧w5.cell? ⟨w.heap.size + 2,1,none⟩=some (.int .i64 0)∧w5.frozen? ⟨w.heap.size + 2,1,none⟩=false∧U.cell? ⟨w.heap.size + 2,0,none⟩=some (.int .i64 K):=by
 have b5:=b3.block (O5.block (w.heap.size + 2) (by omega))
 have y5:=there_block y3 (O5.block (w.heap.size + 2) (by omega))
 have b6:=bm_set1 b5 1 (.int .i64 X) ({ ms0 with kind:=K,xid:=X }:Ms) (by decide) rfl
 have y6:=there_set1 (c:=(w.heap.size + 2)) y5 1 (.int .i64 X)
 have t6:=there_set1 (c:=(w.heap.size + 2)) (there_block t3' (O5.block w.heap.size (by omega))) 1 (.int .i64 X)
 have r6:Rd (w5.setCell ⟨w.heap.size + 2,1,none⟩ (.int .i64 X)) (w.heap.size + 1) (hdR d).s (hdR d).e:=r5.only ((Only.refl (w.heap.size + 2) w5).setCell 1 _) (by omega)
 have g6:Below w.heap.size w (w5.setCell ⟨w.heap.size + 2,1,none⟩ (.int .i64 X)):=((Only.refl (w.heap.size + 2) w5).setCell 1 _).belowK (by omega) (O5.belowK (by omega) g3')
 have s6:(w5.setCell ⟨w.heap.size + 2,1,none⟩ (.int .i64 X)).heap.size=w.heap.size + 3:=by rw [((Only.refl (w.heap.size + 2) w5).setCell 1 _).size,O5.size];exact s3'
 obtain ⟨U,hU⟩:∃ U,w5.setCell ⟨w.heap.size + 2,1,none⟩ (.int .i64 X)=U:=⟨_,rfl⟩
 rw [hU] at b6 y6 t6 r6 g6 s6
 have hU':w5.setCell ⟨w.heap.size + 2,1,none⟩ (.int .i64 X)=U:=hU
 clear hU
 have c1:=b5 1 _ rfl
 have f1:=(y5 1 (by decide)).2
 rw [Nat.zero_add] at c1 f1
 have u0:=b6 0 _ rfl
 rw [Nat.zero_add] at u0
 exact ⟨U,hU',b6,y6,t6,r6,g6,s6,c1,f1,u0⟩
theorem read_n' (d:ByteArray) (w:World) (hs:d.size≤65535) (hd:Ct w) (k1:(hdK d == 1)=false) (k2:(hdK d == 2)=false) (k3:(hdK d == 3)=false) (k12:(hdK d == 12)=false) (k13:(hdK d == 13)=false) (k14:(hdK d == 14)=false) (k15:(hdK d == 15)=false) (k29:(hdK d == 29)=false):Calls Tryz.prog 23 #[.string d] w (RdM d w):=by
 have HM:Hid (readM d=msg0 (hdK d) (hdX d)):=(show _=_ by
  simp only [beq_eq_false_iff_ne] at k1 k2 k3 k12 k13 k14 k15 k29
  unfold readM
  simp [*])
 have hs':d.size≤maxLen:=by unfold maxLen;omega
 have hwp:=hd.a.pos
 obtain ⟨z4,hj,W0,t0,s0,g0,HW0,HR,N1,N2,N3,N4⟩:=rd_set d w hs hd
 generalize hdK d=K at *
 generalize hdX d=X at *
 go_enter Tryz.func23,Tryz.ntmps23
 go_wp2_with fail
 rw [HW0.out]
 refine HR.out.mono ?_
 rintro x w1 ⟨rfl,r1,t1,s1,g1⟩
 go_wp2_with fail
 refine (N1.out _ r1).mono ?_
 rintro x w2 ⟨rfl,r2,o2⟩
 go_wp2_with fail
 refine (N2.out _ r2).mono ?_
 rintro x w3 ⟨rfl,r3,o3⟩
 have O3:=o2.trans o3
 have t3:=there_block t1 (O3.block w.heap.size (by omega))
 have s3:w3.heap.size=w.heap.size + 2:=O3.size.trans s1
 have g3:Below w.heap.size w w3:=O3.belowK (by omega) g1
 obtain ⟨hY,HV⟩:=rd_v K t3 s3 g3 r3
 clear o2 o3 O3 t1 s1 g1 r1 r2 r3 t3 g3 t0 s0 g0
 go_wp2_with (first | (refine build_M rfl (.tmp 10) rfl K rfl ?_) | (refine store_M rfl (.tmp 4) (.tmp 11) rfl (w.heap.size + 2) { ms0 with kind:=K } rfl rfl hY ?_;intro W3 bW tW oW))
 obtain ⟨b3,y3,t3',r3',g3',s3'⟩:=HV.out W3 bW tW oW
 clear bW tW oW HV hY
 refine (N3.out _ r3').mono ?_
 rintro x w4 ⟨rfl,r4,o4⟩
 go_wp2_with fail
 refine (N4.out _ r4).mono ?_
 rintro x w5 ⟨rfl,r5,o5⟩
 obtain ⟨U,hU',b6,y6,t6,r6,g6,s6,c1,f1,u0⟩:=rd_u X b3 y3 t3' g3' s3' r5 (o4.trans o5)
 clear o4 o5 b3 y3 t3' r3' g3' s3' r4 r5
 have HU:Hid (∀ V,Only w.heap.size U V→(∀ V',Keeps w.heap.size V V'→MW V' ({ ms0 with kind:=K,xid:=X }:Ms))∧Below w.heap.size w V):=(show ∀ V,_ from fun V o=>⟨fun V' _=>mw0 V' K X,o.belowK (Nat.le_refl _) g6⟩)
 go_wp2_with (first | (refine load_Mg rfl (.tmp 4) rfl (w.heap.size + 2) ({ ms0 with kind:=K,xid:=X }:Ms) rfl b6 ?_) | (refine store_M rfl (.tmp 2) (.tmp 85) rfl w.heap.size ({ ms0 with kind:=K,xid:=X }:Ms) rfl rfl t6 ?_;intro V bV tV oV))
 obtain ⟨mw,gV⟩:=HU.out V oV
 refine bodyPost_ret (resM (b:=w.heap.size) (m:=({ ms0 with kind:=K,xid:=X }:Ms)) rfl rfl bV) rfl ?_
 exact ⟨({ ms0 with kind:=K,xid:=X }:Ms),rfl,(show _=_ by rw [HM.out];rfl),mw,mu0 K X,gV⟩
theorem read_2' (d:ByteArray) (w:World) (hs:d.size≤65535) (hd:Ct w) (k1:(hdK d == 1)=false) (k2:(hdK d == 2)=true):Calls Tryz.prog 23 #[.string d] w (RdM d w):=by
 have HM:Hid (readM d={ msg0 (hdK d) (hdX d) with dat:=(hdR d).all }):=(show _=_ by
  simp only [beq_eq_false_iff_ne,beq_iff_eq] at k1 k2
  unfold readM
  simp [*])
 have hs':d.size≤maxLen:=by unfold maxLen;omega
 have hwp:=hd.a.pos
 obtain ⟨z4,hj,W0,t0,s0,g0,HW0,HR,N1,N2,N3,N4⟩:=rd_set d w hs hd
 have hD:((hdR d).all).size≤100000:=Nat.le_trans (bytes_le _ _) (by omega)
 have N5:Hid (∀ w_1,Rd w_1 (w.heap.size + 1) (hdR d).s (hdR d).e→Calls Tryz.prog 49 #[.pointer (some ⟨w.heap.size + 1,0,none⟩)] w_1 fun x w'=>x=.returned (.string (hdR d).all)∧Rd w' (w.heap.size + 1) (hdR d).end_.s (hdR d).end_.e∧Only (w.heap.size + 1) w_1 w'):=(show ∀ w_1,Rd w_1 (w.heap.size + 1) _ _→_ from fun w_1 h=>restAll (w.heap.size + 1) (hdR d) w_1 h)
 generalize hdK d=K at *
 generalize hdX d=X at *
 generalize (hdR d).all=D at *
 go_enter Tryz.func23,Tryz.ntmps23
 go_wp2_with fail
 rw [HW0.out]
 refine HR.out.mono ?_
 rintro x w1 ⟨rfl,r1,t1,s1,g1⟩
 go_wp2_with fail
 refine (N1.out _ r1).mono ?_
 rintro x w2 ⟨rfl,r2,o2⟩
 go_wp2_with fail
 refine (N2.out _ r2).mono ?_
 rintro x w3 ⟨rfl,r3,o3⟩
 have O3:=o2.trans o3
 have t3:=there_block t1 (O3.block w.heap.size (by omega))
 have s3:w3.heap.size=w.heap.size + 2:=O3.size.trans s1
 have g3:Below w.heap.size w w3:=O3.belowK (by omega) g1
 obtain ⟨hY,HV⟩:=rd_v K t3 s3 g3 r3
 clear o2 o3 O3 t1 s1 g1 r1 r2 r3 t3 g3 t0 s0 g0
 go_wp2_with (first | (refine build_M rfl (.tmp 10) rfl K rfl ?_) | (refine store_M rfl (.tmp 4) (.tmp 11) rfl (w.heap.size + 2) { ms0 with kind:=K } rfl rfl hY ?_;intro W3 bW tW oW))
 obtain ⟨b3,y3,t3',r3',g3',s3'⟩:=HV.out W3 bW tW oW
 clear bW tW oW HV hY
 refine (N3.out _ r3').mono ?_
 rintro x w4 ⟨rfl,r4,o4⟩
 go_wp2_with fail
 refine (N4.out _ r4).mono ?_
 rintro x w5 ⟨rfl,r5,o5⟩
 obtain ⟨U,hU',b6,y6,t6,r6,g6,s6,c1,f1,u0⟩:=rd_u X b3 y3 t3' g3' s3' r5 (o4.trans o5)
 clear o4 o5 b3 y3 t3' r3' g3' s3' r4 r5
 go_wp2_with fail
 refine (N5.out _ r6).mono ?_
 rintro x v0 ⟨rfl,rv0,ov0⟩
 have bv0:=b6.block (ov0.block (w.heap.size + 2) (by omega))
 have yv0:=there_block y6 (ov0.block (w.heap.size + 2) (by omega))
 have tv0:=there_block t6 (ov0.block w.heap.size (by omega))
 have gv0:Below w.heap.size w v0:=ov0.belowK (by omega) g6
 have sv0:v0.heap.size=w.heap.size + 3:=ov0.size.trans s6
 have B0:=bm_set1 bv0 25 (.string D) ({ ms0 with kind:=K,xid:=X,dat:=D }:Ms) (by decide) rfl
 have Y0:=there_set1 (c:=(w.heap.size + 2)) yv0 25 (.string D)
 have T0:=there_set1 (c:=(w.heap.size + 2)) tv0 25 (.string D)
 have G0:Below w.heap.size w (v0.setCell ⟨w.heap.size + 2,25,none⟩ (.string D)):=((Only.refl (w.heap.size + 2) v0).setCell 25 _).belowK (by omega) gv0
 have O0:Only (w.heap.size + 2) v0 (v0.setCell ⟨w.heap.size + 2,25,none⟩ (.string D)):=(Only.refl (w.heap.size + 2) v0).setCell 25 _
 have p0:=bv0 25 _ rfl
 have q0:=(yv0 25 (by decide)).2
 rw [Nat.zero_add] at p0 q0
 obtain ⟨U0,hU0⟩:∃ U0,(v0.setCell ⟨w.heap.size + 2,25,none⟩ (.string D))=U0:=⟨_,rfl⟩
 rw [hU0] at B0 Y0 T0 G0 O0
 have HU:Hid (∀ V,Only w.heap.size U0 V→((∀ V',Keeps w.heap.size V V'→MW V' ({ ms0 with kind:=K,xid:=X,dat:=D }:Ms))∧MU ({ ms0 with kind:=K,xid:=X,dat:=D }:Ms))∧Below w.heap.size w V):=(show ∀ V,_ from fun V o=>⟨kp2 (fun V' q=>mwu V' rfl rfl rfl rfl rfl rfl hD),o.belowK (Nat.le_refl _) G0⟩)
 go_wp2_with (first | (refine load_Mg rfl (.tmp 4) rfl (w.heap.size + 2) ({ ms0 with kind:=K,xid:=X,dat:=D }:Ms) rfl B0 ?_) | (refine store_M rfl (.tmp 2) (.tmp 85) rfl w.heap.size ({ ms0 with kind:=K,xid:=X,dat:=D }:Ms) rfl rfl T0 ?_;intro V bV tV oV))
 obtain ⟨⟨mw,mu⟩,gV⟩:=HU.out V oV
 refine bodyPost_ret (resM (b:=w.heap.size) (m:=({ ms0 with kind:=K,xid:=X,dat:=D }:Ms)) rfl rfl bV) rfl ?_
 exact ⟨({ ms0 with kind:=K,xid:=X,dat:=D }:Ms),rfl,(show _=_ by rw [HM.out];rfl),mw,mu,gV⟩
theorem read_3' (d:ByteArray) (w:World) (hs:d.size≤65535) (hd:Ct w) (k1:(hdK d == 1)=false) (k2:(hdK d == 2)=false) (k3:(hdK d == 3)=true):Calls Tryz.prog 23 #[.string d] w (RdM d w):=by
 have HM:Hid (readM d={ msg0 (hdK d) (hdX d) with dat:=(hdR d).all }):=(show _=_ by
  simp only [beq_eq_false_iff_ne,beq_iff_eq] at k1 k2 k3
  unfold readM
  simp [*])
 have hs':d.size≤maxLen:=by unfold maxLen;omega
 have hwp:=hd.a.pos
 obtain ⟨z4,hj,W0,t0,s0,g0,HW0,HR,N1,N2,N3,N4⟩:=rd_set d w hs hd
 have hD:((hdR d).all).size≤100000:=Nat.le_trans (bytes_le _ _) (by omega)
 have N5:Hid (∀ w_1,Rd w_1 (w.heap.size + 1) (hdR d).s (hdR d).e→Calls Tryz.prog 49 #[.pointer (some ⟨w.heap.size + 1,0,none⟩)] w_1 fun x w'=>x=.returned (.string (hdR d).all)∧Rd w' (w.heap.size + 1) (hdR d).end_.s (hdR d).end_.e∧Only (w.heap.size + 1) w_1 w'):=(show ∀ w_1,Rd w_1 (w.heap.size + 1) _ _→_ from fun w_1 h=>restAll (w.heap.size + 1) (hdR d) w_1 h)
 generalize hdK d=K at *
 generalize hdX d=X at *
 generalize (hdR d).all=D at *
 go_enter Tryz.func23,Tryz.ntmps23
 go_wp2_with fail
 rw [HW0.out]
 refine HR.out.mono ?_
 rintro x w1 ⟨rfl,r1,t1,s1,g1⟩
 go_wp2_with fail
 refine (N1.out _ r1).mono ?_
 rintro x w2 ⟨rfl,r2,o2⟩
 go_wp2_with fail
 refine (N2.out _ r2).mono ?_
 rintro x w3 ⟨rfl,r3,o3⟩
 have O3:=o2.trans o3
 have t3:=there_block t1 (O3.block w.heap.size (by omega))
 have s3:w3.heap.size=w.heap.size + 2:=O3.size.trans s1
 have g3:Below w.heap.size w w3:=O3.belowK (by omega) g1
 obtain ⟨hY,HV⟩:=rd_v K t3 s3 g3 r3
 clear o2 o3 O3 t1 s1 g1 r1 r2 r3 t3 g3 t0 s0 g0
 go_wp2_with (first | (refine build_M rfl (.tmp 10) rfl K rfl ?_) | (refine store_M rfl (.tmp 4) (.tmp 11) rfl (w.heap.size + 2) { ms0 with kind:=K } rfl rfl hY ?_;intro W3 bW tW oW))
 obtain ⟨b3,y3,t3',r3',g3',s3'⟩:=HV.out W3 bW tW oW
 clear bW tW oW HV hY
 refine (N3.out _ r3').mono ?_
 rintro x w4 ⟨rfl,r4,o4⟩
 go_wp2_with fail
 refine (N4.out _ r4).mono ?_
 rintro x w5 ⟨rfl,r5,o5⟩
 obtain ⟨U,hU',b6,y6,t6,r6,g6,s6,c1,f1,u0⟩:=rd_u X b3 y3 t3' g3' s3' r5 (o4.trans o5)
 clear o4 o5 b3 y3 t3' r3' g3' s3' r4 r5
 go_wp2_with fail
 refine (N5.out _ r6).mono ?_
 rintro x v0 ⟨rfl,rv0,ov0⟩
 have bv0:=b6.block (ov0.block (w.heap.size + 2) (by omega))
 have yv0:=there_block y6 (ov0.block (w.heap.size + 2) (by omega))
 have tv0:=there_block t6 (ov0.block w.heap.size (by omega))
 have gv0:Below w.heap.size w v0:=ov0.belowK (by omega) g6
 have sv0:v0.heap.size=w.heap.size + 3:=ov0.size.trans s6
 have B0:=bm_set1 bv0 25 (.string D) ({ ms0 with kind:=K,xid:=X,dat:=D }:Ms) (by decide) rfl
 have Y0:=there_set1 (c:=(w.heap.size + 2)) yv0 25 (.string D)
 have T0:=there_set1 (c:=(w.heap.size + 2)) tv0 25 (.string D)
 have G0:Below w.heap.size w (v0.setCell ⟨w.heap.size + 2,25,none⟩ (.string D)):=((Only.refl (w.heap.size + 2) v0).setCell 25 _).belowK (by omega) gv0
 have O0:Only (w.heap.size + 2) v0 (v0.setCell ⟨w.heap.size + 2,25,none⟩ (.string D)):=(Only.refl (w.heap.size + 2) v0).setCell 25 _
 have p0:=bv0 25 _ rfl
 have q0:=(yv0 25 (by decide)).2
 rw [Nat.zero_add] at p0 q0
 obtain ⟨U0,hU0⟩:∃ U0,(v0.setCell ⟨w.heap.size + 2,25,none⟩ (.string D))=U0:=⟨_,rfl⟩
 rw [hU0] at B0 Y0 T0 G0 O0
 have HU:Hid (∀ V,Only w.heap.size U0 V→((∀ V',Keeps w.heap.size V V'→MW V' ({ ms0 with kind:=K,xid:=X,dat:=D }:Ms))∧MU ({ ms0 with kind:=K,xid:=X,dat:=D }:Ms))∧Below w.heap.size w V):=(show ∀ V,_ from fun V o=>⟨kp2 (fun V' q=>mwu V' rfl rfl rfl rfl rfl rfl hD),o.belowK (Nat.le_refl _) G0⟩)
 go_wp2_with (first | (refine load_Mg rfl (.tmp 4) rfl (w.heap.size + 2) ({ ms0 with kind:=K,xid:=X,dat:=D }:Ms) rfl B0 ?_) | (refine store_M rfl (.tmp 2) (.tmp 85) rfl w.heap.size ({ ms0 with kind:=K,xid:=X,dat:=D }:Ms) rfl rfl T0 ?_;intro V bV tV oV))
 obtain ⟨⟨mw,mu⟩,gV⟩:=HU.out V oV
 refine bodyPost_ret (resM (b:=w.heap.size) (m:=({ ms0 with kind:=K,xid:=X,dat:=D }:Ms)) rfl rfl bV) rfl ?_
 exact ⟨({ ms0 with kind:=K,xid:=X,dat:=D }:Ms),rfl,(show _=_ by rw [HM.out];rfl),mw,mu,gV⟩
theorem read_1' (d:ByteArray) (w:World) (hs:d.size≤65535) (hd:Ct w) (k1:(hdK d == 1)=true):Calls Tryz.prog 23 #[.string d] w (RdM d w):=by
 have HM:Hid (readM d={ msg0 (hdK d) (hdX d) with typ:=(hdR d).num 2,cod:=((hdR d).skip 2).num 2,dat:=(((hdR d).skip 2).skip 2).all }):=(show _=_ by
  simp only [beq_iff_eq] at k1
  unfold readM
  simp [*])
 have hs':d.size≤maxLen:=by unfold maxLen;omega
 have hwp:=hd.a.pos
 obtain ⟨z4,hj,W0,t0,s0,g0,HW0,HR,N1,N2,N3,N4⟩:=rd_set d w hs hd
 have z5:(hdR d).s.size≤maxLen:=by unfold maxLen;omega
 have z6:=Nat.le_trans (RS.skip_size (hdR d) 2) z5
 have z7:(((hdR d).skip 2).skip 2).s.size≤65535:=Nat.le_trans (RS.skip_size _ _) (Nat.le_trans (RS.skip_size _ _) z4)
 have hD:((((hdR d).skip 2).skip 2).all).size≤100000:=Nat.le_trans (bytes_le _ _) (by omega)
 have N5:Hid (∀ w_1,Rd w_1 (w.heap.size + 1) (hdR d).s (hdR d).e→Calls Tryz.prog 48 #[.pointer (some ⟨w.heap.size + 1,0,none⟩),.int .i64 2] w_1 fun x w'=>x=.returned (.int .i64 ((hdR d).num 2))∧Rd w' (w.heap.size + 1) ((hdR d).skip 2).s ((hdR d).skip 2).e∧Only (w.heap.size + 1) w_1 w'):=(show ∀ w_1,Rd w_1 (w.heap.size + 1) _ _→_ from fun w_1 h=>n2R (w.heap.size + 1) (hdR d) w_1 z5 h)
 have N6:Hid (∀ w_1,Rd w_1 (w.heap.size + 1) ((hdR d).skip 2).s ((hdR d).skip 2).e→Calls Tryz.prog 48 #[.pointer (some ⟨w.heap.size + 1,0,none⟩),.int .i64 2] w_1 fun x w'=>x=.returned (.int .i64 (((hdR d).skip 2).num 2))∧Rd w' (w.heap.size + 1) (((hdR d).skip 2).skip 2).s (((hdR d).skip 2).skip 2).e∧Only (w.heap.size + 1) w_1 w'):=(show ∀ w_1,Rd w_1 (w.heap.size + 1) _ _→_ from fun w_1 h=>n2R (w.heap.size + 1) ((hdR d).skip 2) w_1 z6 h)
 have N7:Hid (∀ w_1,Rd w_1 (w.heap.size + 1) (((hdR d).skip 2).skip 2).s (((hdR d).skip 2).skip 2).e→Calls Tryz.prog 49 #[.pointer (some ⟨w.heap.size + 1,0,none⟩)] w_1 fun x w'=>x=.returned (.string (((hdR d).skip 2).skip 2).all)∧Rd w' (w.heap.size + 1) (((hdR d).skip 2).skip 2).end_.s (((hdR d).skip 2).skip 2).end_.e∧Only (w.heap.size + 1) w_1 w'):=(show ∀ w_1,Rd w_1 (w.heap.size + 1) _ _→_ from fun w_1 h=>restAll (w.heap.size + 1) (((hdR d).skip 2).skip 2) w_1 h)
 generalize hdK d=K at *
 generalize hdX d=X at *
 generalize (hdR d).num 2=TY at *
 generalize ((hdR d).skip 2).num 2=CO at *
 generalize (((hdR d).skip 2).skip 2).all=D at *
 go_enter Tryz.func23,Tryz.ntmps23
 go_wp2_with fail
 rw [HW0.out]
 refine HR.out.mono ?_
 rintro x w1 ⟨rfl,r1,t1,s1,g1⟩
 go_wp2_with fail
 refine (N1.out _ r1).mono ?_
 rintro x w2 ⟨rfl,r2,o2⟩
 go_wp2_with fail
 refine (N2.out _ r2).mono ?_
 rintro x w3 ⟨rfl,r3,o3⟩
 have O3:=o2.trans o3
 have t3:=there_block t1 (O3.block w.heap.size (by omega))
 have s3:w3.heap.size=w.heap.size + 2:=O3.size.trans s1
 have g3:Below w.heap.size w w3:=O3.belowK (by omega) g1
 obtain ⟨hY,HV⟩:=rd_v K t3 s3 g3 r3
 clear o2 o3 O3 t1 s1 g1 r1 r2 r3 t3 g3 t0 s0 g0
 go_wp2_with (first | (refine build_M rfl (.tmp 10) rfl K rfl ?_) | (refine store_M rfl (.tmp 4) (.tmp 11) rfl (w.heap.size + 2) { ms0 with kind:=K } rfl rfl hY ?_;intro W3 bW tW oW))
 obtain ⟨b3,y3,t3',r3',g3',s3'⟩:=HV.out W3 bW tW oW
 clear bW tW oW HV hY
 refine (N3.out _ r3').mono ?_
 rintro x w4 ⟨rfl,r4,o4⟩
 go_wp2_with fail
 refine (N4.out _ r4).mono ?_
 rintro x w5 ⟨rfl,r5,o5⟩
 obtain ⟨U,hU',b6,y6,t6,r6,g6,s6,c1,f1,u0⟩:=rd_u X b3 y3 t3' g3' s3' r5 (o4.trans o5)
 clear o4 o5 b3 y3 t3' r3' g3' s3' r4 r5
 go_wp2_with fail
 refine (N5.out _ r6).mono ?_
 rintro x v0 ⟨rfl,rv0,ov0⟩
 have bv0:=b6.block (ov0.block (w.heap.size + 2) (by omega))
 have yv0:=there_block y6 (ov0.block (w.heap.size + 2) (by omega))
 have tv0:=there_block t6 (ov0.block w.heap.size (by omega))
 have gv0:Below w.heap.size w v0:=ov0.belowK (by omega) g6
 have sv0:v0.heap.size=w.heap.size + 3:=ov0.size.trans s6
 go_wp2_with fail
 refine (N6.out _ rv0).mono ?_
 rintro x v1 ⟨rfl,rv1,ov1⟩
 have bv1:=bv0.block (ov1.block (w.heap.size + 2) (by omega))
 have yv1:=there_block yv0 (ov1.block (w.heap.size + 2) (by omega))
 have tv1:=there_block tv0 (ov1.block w.heap.size (by omega))
 have gv1:Below w.heap.size w v1:=ov1.belowK (by omega) gv0
 have sv1:v1.heap.size=w.heap.size + 3:=ov1.size.trans sv0
 go_wp2_with fail
 refine (N7.out _ rv1).mono ?_
 rintro x v2 ⟨rfl,rv2,ov2⟩
 have bv2:=bv1.block (ov2.block (w.heap.size + 2) (by omega))
 have yv2:=there_block yv1 (ov2.block (w.heap.size + 2) (by omega))
 have tv2:=there_block tv1 (ov2.block w.heap.size (by omega))
 have gv2:Below w.heap.size w v2:=ov2.belowK (by omega) gv1
 have sv2:v2.heap.size=w.heap.size + 3:=ov2.size.trans sv1
 have B0:=bm_set1 bv2 20 (.int .i64 TY) ({ ms0 with kind:=K,xid:=X,typ:=TY }:Ms) (by decide) rfl
 have Y0:=there_set1 (c:=(w.heap.size + 2)) yv2 20 (.int .i64 TY)
 have T0:=there_set1 (c:=(w.heap.size + 2)) tv2 20 (.int .i64 TY)
 have G0:Below w.heap.size w (v2.setCell ⟨w.heap.size + 2,20,none⟩ (.int .i64 TY)):=((Only.refl (w.heap.size + 2) v2).setCell 20 _).belowK (by omega) gv2
 have O0:Only (w.heap.size + 2) v2 (v2.setCell ⟨w.heap.size + 2,20,none⟩ (.int .i64 TY)):=(Only.refl (w.heap.size + 2) v2).setCell 20 _
 have p0:=bv2 20 _ rfl
 have q0:=(yv2 20 (by decide)).2
 rw [Nat.zero_add] at p0 q0
 obtain ⟨U0,hU0⟩:∃ U0,(v2.setCell ⟨w.heap.size + 2,20,none⟩ (.int .i64 TY))=U0:=⟨_,rfl⟩
 rw [hU0] at B0 Y0 T0 G0 O0
 have B1:=bm_set1 B0 21 (.int .i64 CO) ({ ms0 with kind:=K,xid:=X,typ:=TY,cod:=CO }:Ms) (by decide) rfl
 have Y1:=there_set1 (c:=(w.heap.size + 2)) Y0 21 (.int .i64 CO)
 have T1:=there_set1 (c:=(w.heap.size + 2)) T0 21 (.int .i64 CO)
 have G1:Below w.heap.size w (U0.setCell ⟨w.heap.size + 2,21,none⟩ (.int .i64 CO)):=((Only.refl (w.heap.size + 2) U0).setCell 21 _).belowK (by omega) G0
 have O1:Only (w.heap.size + 2) v2 (U0.setCell ⟨w.heap.size + 2,21,none⟩ (.int .i64 CO)):=O0.setCell 21 _
 have p1:=B0 21 _ rfl
 have q1:=(Y0 21 (by decide)).2
 rw [Nat.zero_add] at p1 q1
 obtain ⟨U1,hU1⟩:∃ U1,(U0.setCell ⟨w.heap.size + 2,21,none⟩ (.int .i64 CO))=U1:=⟨_,rfl⟩
 rw [hU1] at B1 Y1 T1 G1 O1
 have B2:=bm_set1 B1 25 (.string D) ({ ms0 with kind:=K,xid:=X,typ:=TY,cod:=CO,dat:=D }:Ms) (by decide) rfl
 have Y2:=there_set1 (c:=(w.heap.size + 2)) Y1 25 (.string D)
 have T2:=there_set1 (c:=(w.heap.size + 2)) T1 25 (.string D)
 have G2:Below w.heap.size w (U1.setCell ⟨w.heap.size + 2,25,none⟩ (.string D)):=((Only.refl (w.heap.size + 2) U1).setCell 25 _).belowK (by omega) G1
 have O2:Only (w.heap.size + 2) v2 (U1.setCell ⟨w.heap.size + 2,25,none⟩ (.string D)):=O1.setCell 25 _
 have p2:=B1 25 _ rfl
 have q2:=(Y1 25 (by decide)).2
 rw [Nat.zero_add] at p2 q2
 obtain ⟨U2,hU2⟩:∃ U2,(U1.setCell ⟨w.heap.size + 2,25,none⟩ (.string D))=U2:=⟨_,rfl⟩
 rw [hU2] at B2 Y2 T2 G2 O2
 have HU:Hid (∀ V,Only w.heap.size U2 V→((∀ V',Keeps w.heap.size V V'→MW V' ({ ms0 with kind:=K,xid:=X,typ:=TY,cod:=CO,dat:=D }:Ms))∧MU ({ ms0 with kind:=K,xid:=X,typ:=TY,cod:=CO,dat:=D }:Ms))∧Below w.heap.size w V):=(show ∀ V,_ from fun V o=>⟨kp2 (fun V' q=>mwu V' rfl rfl rfl rfl rfl rfl hD),o.belowK (Nat.le_refl _) G2⟩)
 go_wp2_with (first | (refine load_Mg rfl (.tmp 4) rfl (w.heap.size + 2) ({ ms0 with kind:=K,xid:=X,typ:=TY,cod:=CO,dat:=D }:Ms) rfl B2 ?_) | (refine store_M rfl (.tmp 2) (.tmp 85) rfl w.heap.size ({ ms0 with kind:=K,xid:=X,typ:=TY,cod:=CO,dat:=D }:Ms) rfl rfl T2 ?_;intro V bV tV oV))
 obtain ⟨⟨mw,mu⟩,gV⟩:=HU.out V oV
 refine bodyPost_ret (resM (b:=w.heap.size) (m:=({ ms0 with kind:=K,xid:=X,typ:=TY,cod:=CO,dat:=D }:Ms)) rfl rfl bV) rfl ?_
 exact ⟨({ ms0 with kind:=K,xid:=X,typ:=TY,cod:=CO,dat:=D }:Ms),rfl,(show _=_ by rw [HM.out];rfl),mw,mu,gV⟩
theorem read_12' (d:ByteArray) (w:World) (hs:d.size≤65535) (hd:Ct w) (k1:(hdK d == 1)=false) (k2:(hdK d == 2)=false) (k3:(hdK d == 3)=false) (k12:(hdK d == 12)=true):Calls Tryz.prog 23 #[.string d] w (RdM d w):=by
 have HM:Hid (readM d={ msg0 (hdK d) (hdX d) with prt:=((hdR d).jump 8).num 4,live:=(((((hdR d).jump 8).skip 4).jump 32).num 4 == 0) }):=(show _=_ by
  simp only [beq_eq_false_iff_ne,beq_iff_eq] at k1 k2 k3 k12
  unfold readM
  simp [*])
 have hs':d.size≤maxLen:=by unfold maxLen;omega
 have hwp:=hd.a.pos
 obtain ⟨z4,hj,W0,t0,s0,g0,HW0,HR,N1,N2,N3,N4⟩:=rd_set d w hs hd
 have z5:(hdR d).s.size≤maxLen:=by unfold maxLen;omega
 have N5:Hid (∀ w_1,Rd w_1 (w.heap.size + 1) (hdR d).s (hdR d).e→Calls Tryz.prog 50 #[.pointer (some ⟨w.heap.size + 1,0,none⟩)] w_1 fun x w'=>x=.returned (.tuple #[.int .i64 (((hdR d).jump 8).num 4),.bool (((((hdR d).jump 8).skip 4).jump 32).num 4 == 0)])∧Only (w.heap.size + 1) w_1 w'):=(show ∀ w_1,Rd w_1 (w.heap.size + 1) _ _→_ from fun w_1 h=>readPort_any (w.heap.size + 1) (hdR d) w_1 z5 h)
 generalize hdK d=K at *
 generalize hdX d=X at *
 generalize ((hdR d).jump 8).num 4=PT at *
 generalize (((((hdR d).jump 8).skip 4).jump 32).num 4 == 0)=LV at *
 go_enter Tryz.func23,Tryz.ntmps23
 go_wp2_with fail
 rw [HW0.out]
 refine HR.out.mono ?_
 rintro x w1 ⟨rfl,r1,t1,s1,g1⟩
 go_wp2_with fail
 refine (N1.out _ r1).mono ?_
 rintro x w2 ⟨rfl,r2,o2⟩
 go_wp2_with fail
 refine (N2.out _ r2).mono ?_
 rintro x w3 ⟨rfl,r3,o3⟩
 have O3:=o2.trans o3
 have t3:=there_block t1 (O3.block w.heap.size (by omega))
 have s3:w3.heap.size=w.heap.size + 2:=O3.size.trans s1
 have g3:Below w.heap.size w w3:=O3.belowK (by omega) g1
 obtain ⟨hY,HV⟩:=rd_v K t3 s3 g3 r3
 clear o2 o3 O3 t1 s1 g1 r1 r2 r3 t3 g3 t0 s0 g0
 go_wp2_with (first | (refine build_M rfl (.tmp 10) rfl K rfl ?_) | (refine store_M rfl (.tmp 4) (.tmp 11) rfl (w.heap.size + 2) { ms0 with kind:=K } rfl rfl hY ?_;intro W3 bW tW oW))
 obtain ⟨b3,y3,t3',r3',g3',s3'⟩:=HV.out W3 bW tW oW
 clear bW tW oW HV hY
 refine (N3.out _ r3').mono ?_
 rintro x w4 ⟨rfl,r4,o4⟩
 go_wp2_with fail
 refine (N4.out _ r4).mono ?_
 rintro x w5 ⟨rfl,r5,o5⟩
 obtain ⟨U,hU',b6,y6,t6,r6,g6,s6,c1,f1,u0⟩:=rd_u X b3 y3 t3' g3' s3' r5 (o4.trans o5)
 clear o4 o5 b3 y3 t3' r3' g3' s3' r4 r5
 go_wp2_with fail
 refine (N5.out _ r6).mono ?_
 rintro x v0 ⟨rfl,ov0⟩
 have bv0:=b6.block (ov0.block (w.heap.size + 2) (by omega))
 have yv0:=there_block y6 (ov0.block (w.heap.size + 2) (by omega))
 have tv0:=there_block t6 (ov0.block w.heap.size (by omega))
 have gv0:Below w.heap.size w v0:=ov0.belowK (by omega) g6
 have sv0:v0.heap.size=w.heap.size + 3:=ov0.size.trans s6
 have B0:=bm_set1 bv0 22 (.int .i64 PT) ({ ms0 with kind:=K,xid:=X,prt:=PT }:Ms) (by decide) rfl
 have Y0:=there_set1 (c:=(w.heap.size + 2)) yv0 22 (.int .i64 PT)
 have T0:=there_set1 (c:=(w.heap.size + 2)) tv0 22 (.int .i64 PT)
 have G0:Below w.heap.size w (v0.setCell ⟨w.heap.size + 2,22,none⟩ (.int .i64 PT)):=((Only.refl (w.heap.size + 2) v0).setCell 22 _).belowK (by omega) gv0
 have O0:Only (w.heap.size + 2) v0 (v0.setCell ⟨w.heap.size + 2,22,none⟩ (.int .i64 PT)):=(Only.refl (w.heap.size + 2) v0).setCell 22 _
 have p0:=bv0 22 _ rfl
 have q0:=(yv0 22 (by decide)).2
 rw [Nat.zero_add] at p0 q0
 obtain ⟨U0,hU0⟩:∃ U0,(v0.setCell ⟨w.heap.size + 2,22,none⟩ (.int .i64 PT))=U0:=⟨_,rfl⟩
 rw [hU0] at B0 Y0 T0 G0 O0
 have B1:=bm_set1 B0 23 (.bool LV) ({ ms0 with kind:=K,xid:=X,prt:=PT,live:=LV }:Ms) (by decide) rfl
 have Y1:=there_set1 (c:=(w.heap.size + 2)) Y0 23 (.bool LV)
 have T1:=there_set1 (c:=(w.heap.size + 2)) T0 23 (.bool LV)
 have G1:Below w.heap.size w (U0.setCell ⟨w.heap.size + 2,23,none⟩ (.bool LV)):=((Only.refl (w.heap.size + 2) U0).setCell 23 _).belowK (by omega) G0
 have O1:Only (w.heap.size + 2) v0 (U0.setCell ⟨w.heap.size + 2,23,none⟩ (.bool LV)):=O0.setCell 23 _
 have p1:=B0 23 _ rfl
 have q1:=(Y0 23 (by decide)).2
 rw [Nat.zero_add] at p1 q1
 obtain ⟨U1,hU1⟩:∃ U1,(U0.setCell ⟨w.heap.size + 2,23,none⟩ (.bool LV))=U1:=⟨_,rfl⟩
 rw [hU1] at B1 Y1 T1 G1 O1
 have HU:Hid (∀ V,Only w.heap.size U1 V→((∀ V',Keeps w.heap.size V V'→MW V' ({ ms0 with kind:=K,xid:=X,prt:=PT,live:=LV }:Ms))∧MU ({ ms0 with kind:=K,xid:=X,prt:=PT,live:=LV }:Ms))∧Below w.heap.size w V):=(show ∀ V,_ from fun V o=>⟨kp2 (fun V' q=>mwu V' rfl rfl rfl rfl rfl rfl (show (ByteArray.mk #[]).size≤100000 by decide)),o.belowK (Nat.le_refl _) G1⟩)
 go_wp2_with (first | (refine load_Mg rfl (.tmp 4) rfl (w.heap.size + 2) ({ ms0 with kind:=K,xid:=X,prt:=PT,live:=LV }:Ms) rfl B1 ?_) | (refine store_M rfl (.tmp 2) (.tmp 85) rfl w.heap.size ({ ms0 with kind:=K,xid:=X,prt:=PT,live:=LV }:Ms) rfl rfl T1 ?_;intro V bV tV oV))
 obtain ⟨⟨mw,mu⟩,gV⟩:=HU.out V oV
 refine bodyPost_ret (resM (b:=w.heap.size) (m:=({ ms0 with kind:=K,xid:=X,prt:=PT,live:=LV }:Ms)) rfl rfl bV) rfl ?_
 exact ⟨({ ms0 with kind:=K,xid:=X,prt:=PT,live:=LV }:Ms),rfl,(show _=_ by rw [HM.out];rfl),mw,mu,gV⟩
theorem read_29' (d:ByteArray) (w:World) (hs:d.size≤65535) (hd:Ct w) (k1:(hdK d == 1)=false) (k2:(hdK d == 2)=false) (k3:(hdK d == 3)=false) (k12:(hdK d == 12)=false) (k13:(hdK d == 13)=false) (k14:(hdK d == 14)=false) (k15:(hdK d == 15)=false) (k29:(hdK d == 29)=true):Calls Tryz.prog 23 #[.string d] w (RdM d w):=by
 have HM:Hid (readM d={ msg0 (hdK d) (hdX d) with cmd:=(mtV (hdR d)).1,mid:=(mtV (hdR d)).2.1,mra:=(mtV (hdR d)).2.2.1,mbu:=(mtV (hdR d)).2.2.2 }):=(show _=_ by
  simp only [beq_eq_false_iff_ne,beq_iff_eq] at k1 k2 k3 k12 k13 k14 k15 k29
  unfold readM
  simp [*])
 have hs':d.size≤maxLen:=by unfold maxLen;omega
 have hwp:=hd.a.pos
 obtain ⟨z4,hj,W0,t0,s0,g0,HW0,HR,N1,N2,N3,N4⟩:=rd_set d w hs hd
 have z5:(hdR d).s.size≤maxLen:=by unfold maxLen;omega
 have N5:Hid (∀ w_1,Rd w_1 (w.heap.size + 1) (hdR d).s (hdR d).e∧(w.heap.size + 1) < w_1.heap.size→Calls Tryz.prog 54 #[.pointer (some ⟨w.heap.size + 1,0,none⟩)] w_1 fun x w'=>x=.returned (.tuple #[.int .i64 (mtV (hdR d)).1,.agg #[.int .i64 (mtV (hdR d)).2.1,.int .i64 (mtV (hdR d)).2.2.1,.int .i64 (mtV (hdR d)).2.2.2]])∧Grb (w.heap.size + 1) w_1 w'):=(show ∀ w_1,Rd w_1 (w.heap.size + 1) _ _∧_→_ from fun w_1 h=>readMt_any (w.heap.size + 1) (hdR d) w_1 z5 h.2 h.1)
 generalize hdK d=K at *
 generalize hdX d=X at *
 generalize (mtV (hdR d)).1=M0 at *
 generalize (mtV (hdR d)).2.1=M1 at *
 generalize (mtV (hdR d)).2.2.1=M2 at *
 generalize (mtV (hdR d)).2.2.2=M3 at *
 go_enter Tryz.func23,Tryz.ntmps23
 go_wp2_with fail
 rw [HW0.out]
 refine HR.out.mono ?_
 rintro x w1 ⟨rfl,r1,t1,s1,g1⟩
 go_wp2_with fail
 refine (N1.out _ r1).mono ?_
 rintro x w2 ⟨rfl,r2,o2⟩
 go_wp2_with fail
 refine (N2.out _ r2).mono ?_
 rintro x w3 ⟨rfl,r3,o3⟩
 have O3:=o2.trans o3
 have t3:=there_block t1 (O3.block w.heap.size (by omega))
 have s3:w3.heap.size=w.heap.size + 2:=O3.size.trans s1
 have g3:Below w.heap.size w w3:=O3.belowK (by omega) g1
 obtain ⟨hY,HV⟩:=rd_v K t3 s3 g3 r3
 clear o2 o3 O3 t1 s1 g1 r1 r2 r3 t3 g3 t0 s0 g0
 go_wp2_with (first | (refine build_M rfl (.tmp 10) rfl K rfl ?_) | (refine store_M rfl (.tmp 4) (.tmp 11) rfl (w.heap.size + 2) { ms0 with kind:=K } rfl rfl hY ?_;intro W3 bW tW oW))
 obtain ⟨b3,y3,t3',r3',g3',s3'⟩:=HV.out W3 bW tW oW
 clear bW tW oW HV hY
 refine (N3.out _ r3').mono ?_
 rintro x w4 ⟨rfl,r4,o4⟩
 go_wp2_with fail
 refine (N4.out _ r4).mono ?_
 rintro x w5 ⟨rfl,r5,o5⟩
 obtain ⟨U,hU',b6,y6,t6,r6,g6,s6,c1,f1,u0⟩:=rd_u X b3 y3 t3' g3' s3' r5 (o4.trans o5)
 clear o4 o5 b3 y3 t3' r3' g3' s3' r4 r5
 go_wp2_with fail
 refine (N5.out _ ⟨r6,by omega⟩).mono ?_
 rintro x v0 ⟨rfl,ov0⟩
 have bv0:=b6.block (ov0.block (w.heap.size + 2) (by omega) (by omega))
 have yv0:=there_block y6 (ov0.block (w.heap.size + 2) (by omega) (by omega))
 have tv0:=there_block t6 (ov0.block w.heap.size (by omega) (by omega))
 have gv0:Below w.heap.size w v0:=ov0.below g6 (by omega) (by omega)
 have sv0:w.heap.size + 3≤v0.heap.size:=s6 ▸ ov0.size
 have B0:=bm_set1 bv0 2 (.int .i64 M0) ({ ms0 with kind:=K,xid:=X,cmd:=M0 }:Ms) (by decide) rfl
 have Y0:=there_set1 (c:=(w.heap.size + 2)) yv0 2 (.int .i64 M0)
 have T0:=there_set1 (c:=(w.heap.size + 2)) tv0 2 (.int .i64 M0)
 have G0:Below w.heap.size w (v0.setCell ⟨w.heap.size + 2,2,none⟩ (.int .i64 M0)):=((Only.refl (w.heap.size + 2) v0).setCell 2 _).belowK (by omega) gv0
 have O0:Only (w.heap.size + 2) v0 (v0.setCell ⟨w.heap.size + 2,2,none⟩ (.int .i64 M0)):=(Only.refl (w.heap.size + 2) v0).setCell 2 _
 have p0:=bv0 2 _ rfl
 have q0:=(yv0 2 (by decide)).2
 rw [Nat.zero_add] at p0 q0
 obtain ⟨U0,hU0⟩:∃ U0,(v0.setCell ⟨w.heap.size + 2,2,none⟩ (.int .i64 M0))=U0:=⟨_,rfl⟩
 rw [hU0] at B0 Y0 T0 G0 O0
 have B1:=bm_set1 B0 17 (.int .i64 M1) ({ ms0 with kind:=K,xid:=X,cmd:=M0,mid:=M1 }:Ms) (by decide) rfl
 have Y1:=there_set1 (c:=(w.heap.size + 2)) Y0 17 (.int .i64 M1)
 have T1:=there_set1 (c:=(w.heap.size + 2)) T0 17 (.int .i64 M1)
 have G1:Below w.heap.size w (U0.setCell ⟨w.heap.size + 2,17,none⟩ (.int .i64 M1)):=((Only.refl (w.heap.size + 2) U0).setCell 17 _).belowK (by omega) G0
 have O1:Only (w.heap.size + 2) v0 (U0.setCell ⟨w.heap.size + 2,17,none⟩ (.int .i64 M1)):=O0.setCell 17 _
 have p1:=B0 17 _ rfl
 have q1:=(Y0 17 (by decide)).2
 rw [Nat.zero_add] at p1 q1
 obtain ⟨U1,hU1⟩:∃ U1,(U0.setCell ⟨w.heap.size + 2,17,none⟩ (.int .i64 M1))=U1:=⟨_,rfl⟩
 rw [hU1] at B1 Y1 T1 G1 O1
 have B2:=bm_set1 B1 18 (.int .i64 M2) ({ ms0 with kind:=K,xid:=X,cmd:=M0,mid:=M1,mra:=M2 }:Ms) (by decide) rfl
 have Y2:=there_set1 (c:=(w.heap.size + 2)) Y1 18 (.int .i64 M2)
 have T2:=there_set1 (c:=(w.heap.size + 2)) T1 18 (.int .i64 M2)
 have G2:Below w.heap.size w (U1.setCell ⟨w.heap.size + 2,18,none⟩ (.int .i64 M2)):=((Only.refl (w.heap.size + 2) U1).setCell 18 _).belowK (by omega) G1
 have O2:Only (w.heap.size + 2) v0 (U1.setCell ⟨w.heap.size + 2,18,none⟩ (.int .i64 M2)):=O1.setCell 18 _
 have p2:=B1 18 _ rfl
 have q2:=(Y1 18 (by decide)).2
 rw [Nat.zero_add] at p2 q2
 obtain ⟨U2,hU2⟩:∃ U2,(U1.setCell ⟨w.heap.size + 2,18,none⟩ (.int .i64 M2))=U2:=⟨_,rfl⟩
 rw [hU2] at B2 Y2 T2 G2 O2
 have B3:=bm_set1 B2 19 (.int .i64 M3) ({ ms0 with kind:=K,xid:=X,cmd:=M0,mid:=M1,mra:=M2,mbu:=M3 }:Ms) (by decide) rfl
 have Y3:=there_set1 (c:=(w.heap.size + 2)) Y2 19 (.int .i64 M3)
 have T3:=there_set1 (c:=(w.heap.size + 2)) T2 19 (.int .i64 M3)
 have G3:Below w.heap.size w (U2.setCell ⟨w.heap.size + 2,19,none⟩ (.int .i64 M3)):=((Only.refl (w.heap.size + 2) U2).setCell 19 _).belowK (by omega) G2
 have O3:Only (w.heap.size + 2) v0 (U2.setCell ⟨w.heap.size + 2,19,none⟩ (.int .i64 M3)):=O2.setCell 19 _
 have p3:=B2 19 _ rfl
 have q3:=(Y2 19 (by decide)).2
 rw [Nat.zero_add] at p3 q3
 obtain ⟨U3,hU3⟩:∃ U3,(U2.setCell ⟨w.heap.size + 2,19,none⟩ (.int .i64 M3))=U3:=⟨_,rfl⟩
 rw [hU3] at B3 Y3 T3 G3 O3
 have HU:Hid (∀ V,Only w.heap.size U3 V→((∀ V',Keeps w.heap.size V V'→MW V' ({ ms0 with kind:=K,xid:=X,cmd:=M0,mid:=M1,mra:=M2,mbu:=M3 }:Ms))∧MU ({ ms0 with kind:=K,xid:=X,cmd:=M0,mid:=M1,mra:=M2,mbu:=M3 }:Ms))∧Below w.heap.size w V):=(show ∀ V,_ from fun V o=>⟨kp2 (fun V' q=>mwu V' rfl rfl rfl rfl rfl rfl (show (ByteArray.mk #[]).size≤100000 by decide)),o.belowK (Nat.le_refl _) G3⟩)
 go_wp2_with (first | (refine load_Mg rfl (.tmp 4) rfl (w.heap.size + 2) ({ ms0 with kind:=K,xid:=X,cmd:=M0,mid:=M1,mra:=M2,mbu:=M3 }:Ms) rfl B3 ?_) | (refine store_M rfl (.tmp 2) (.tmp 85) rfl w.heap.size ({ ms0 with kind:=K,xid:=X,cmd:=M0,mid:=M1,mra:=M2,mbu:=M3 }:Ms) rfl rfl T3 ?_;intro V bV tV oV))
 obtain ⟨⟨mw,mu⟩,gV⟩:=HU.out V oV
 refine bodyPost_ret (resM (b:=w.heap.size) (m:=({ ms0 with kind:=K,xid:=X,cmd:=M0,mid:=M1,mra:=M2,mbu:=M3 }:Ms)) rfl rfl bV) rfl ?_
 exact ⟨({ ms0 with kind:=K,xid:=X,cmd:=M0,mid:=M1,mra:=M2,mbu:=M3 }:Ms),rfl,(show _=_ by rw [HM.out];rfl),mw,mu,gV⟩
theorem read_13' (d:ByteArray) (w:World) (hs:d.size≤65535) (hd:Ct w) (k1:(hdK d == 1)=false) (k2:(hdK d == 2)=false) (k3:(hdK d == 3)=false) (k12:(hdK d == 12)=false) (k13:(hdK d == 13)=true):Calls Tryz.prog 23 #[.string d] w (RdM d w):=by
 have HM:Hid (readM d={ msg0 (hdK d) (hdX d) with prt:=((hdR d).jump 4).num 4,la:=pkA (hdR d),dat:=pkD (hdR d) }):=(show _=_ by
  simp only [beq_eq_false_iff_ne,beq_iff_eq] at k1 k2 k3 k12 k13
  unfold readM
  simp [*])
 have hs':d.size≤maxLen:=by unfold maxLen;omega
 have hwp:=hd.a.pos
 obtain ⟨z4,hj,W0,t0,s0,g0,HW0,HR,N1,N2,N3,N4⟩:=rd_set d w hs hd
 have z5:(hdR d).s.size≤maxLen:=by unfold maxLen;omega
 have hL:(pkA (hdR d)).length≤1000:=decV_few _
 have hA:Hid (AWs (pkA (hdR d))):=acts_aw _
 have hD:(pkD (hdR d)).size≤100000:=Nat.le_trans (bytes_le _ _) (Nat.le_trans (RS.jump_size _ _) (Nat.le_trans (RS.jump_size _ _) (Nat.le_trans (RS.skip_size _ _) (Nat.le_trans (RS.skip_size _ _) (Nat.le_trans (RS.jump_size _ _) (Nat.le_trans z4 (by decide)))))))
 have N5:Hid (∀ w_1,Rd w_1 (w.heap.size + 1) (hdR d).s (hdR d).e∧(w.heap.size + 1) < w_1.heap.size∧Below w.heap.size w w_1→Calls Tryz.prog 51 #[.pointer (some ⟨w.heap.size + 1,0,none⟩)] w_1 fun x w'=>∃ a cap,x=.returned (.tuple #[.int .i64 (((hdR d).jump 4).num 4),.slice a (pkA (hdR d)).length cap,.string (pkD (hdR d))])∧Hid (TsF w_1.heap.size w' a (pkA (hdR d)))∧Grb (w.heap.size + 1) w_1 w'):=(show ∀ w_1,Rd w_1 (w.heap.size + 1) _ _∧_→_ from fun w_1 h=>(readPk_any (w.heap.size + 1) (hdR d) w_1 z5 h.2.1 (by omega) ((Grb.ofBelow (b:=(w.heap.size + 1)) h.2.2).cd hd (by omega)) h.1).mono fun _ _ ⟨a,c,h1,h2,h3⟩=>⟨a,c,h1,(show TsF _ _ _ _ from h2),h3⟩)
 generalize hdK d=K at *
 generalize hdX d=X at *
 generalize ((hdR d).jump 4).num 4=PT at *
 generalize pkA (hdR d)=L at *
 generalize pkD (hdR d)=D at *
 go_enter Tryz.func23,Tryz.ntmps23
 go_wp2_with fail
 rw [HW0.out]
 refine HR.out.mono ?_
 rintro x w1 ⟨rfl,r1,t1,s1,g1⟩
 go_wp2_with fail
 refine (N1.out _ r1).mono ?_
 rintro x w2 ⟨rfl,r2,o2⟩
 go_wp2_with fail
 refine (N2.out _ r2).mono ?_
 rintro x w3 ⟨rfl,r3,o3⟩
 have O3:=o2.trans o3
 have t3:=there_block t1 (O3.block w.heap.size (by omega))
 have s3:w3.heap.size=w.heap.size + 2:=O3.size.trans s1
 have g3:Below w.heap.size w w3:=O3.belowK (by omega) g1
 obtain ⟨hY,HV⟩:=rd_v K t3 s3 g3 r3
 clear o2 o3 O3 t1 s1 g1 r1 r2 r3 t3 g3 t0 s0 g0
 go_wp2_with (first | (refine build_M rfl (.tmp 10) rfl K rfl ?_) | (refine store_M rfl (.tmp 4) (.tmp 11) rfl (w.heap.size + 2) { ms0 with kind:=K } rfl rfl hY ?_;intro W3 bW tW oW))
 obtain ⟨b3,y3,t3',r3',g3',s3'⟩:=HV.out W3 bW tW oW
 clear bW tW oW HV hY
 refine (N3.out _ r3').mono ?_
 rintro x w4 ⟨rfl,r4,o4⟩
 go_wp2_with fail
 refine (N4.out _ r4).mono ?_
 rintro x w5 ⟨rfl,r5,o5⟩
 obtain ⟨U,hU',b6,y6,t6,r6,g6,s6,c1,f1,u0⟩:=rd_u X b3 y3 t3' g3' s3' r5 (o4.trans o5)
 clear o4 o5 b3 y3 t3' r3' g3' s3' r4 r5
 go_wp2_with fail
 refine (N5.out _ ⟨r6,by omega,g6⟩).mono ?_
 rintro x v0 ⟨aP,cP,rfl,TF,ov0⟩
 have bv0:=b6.block (ov0.block (w.heap.size + 2) (by omega) (by omega))
 have yv0:=there_block y6 (ov0.block (w.heap.size + 2) (by omega) (by omega))
 have tv0:=there_block t6 (ov0.block w.heap.size (by omega) (by omega))
 have gv0:Below w.heap.size w v0:=ov0.below g6 (by omega) (by omega)
 have sv0:w.heap.size + 3≤v0.heap.size:=s6 ▸ ov0.size
 have B0:=bm_set1 bv0 22 (.int .i64 PT) ({ ms0 with kind:=K,xid:=X,prt:=PT }:Ms) (by decide) rfl
 have Y0:=there_set1 (c:=(w.heap.size + 2)) yv0 22 (.int .i64 PT)
 have T0:=there_set1 (c:=(w.heap.size + 2)) tv0 22 (.int .i64 PT)
 have G0:Below w.heap.size w (v0.setCell ⟨w.heap.size + 2,22,none⟩ (.int .i64 PT)):=((Only.refl (w.heap.size + 2) v0).setCell 22 _).belowK (by omega) gv0
 have O0:Only (w.heap.size + 2) v0 (v0.setCell ⟨w.heap.size + 2,22,none⟩ (.int .i64 PT)):=(Only.refl (w.heap.size + 2) v0).setCell 22 _
 have p0:=bv0 22 _ rfl
 have q0:=(yv0 22 (by decide)).2
 rw [Nat.zero_add] at p0 q0
 obtain ⟨U0,hU0⟩:∃ U0,(v0.setCell ⟨w.heap.size + 2,22,none⟩ (.int .i64 PT))=U0:=⟨_,rfl⟩
 rw [hU0] at B0 Y0 T0 G0 O0
 have B1:=bm_set1 B0 24 (.slice aP L.length cP) ({ ms0 with kind:=K,xid:=X,prt:=PT,aa:=aP,la:=L,ca:=cP }:Ms) (by decide) rfl
 have Y1:=there_set1 (c:=(w.heap.size + 2)) Y0 24 (.slice aP L.length cP)
 have T1:=there_set1 (c:=(w.heap.size + 2)) T0 24 (.slice aP L.length cP)
 have G1:Below w.heap.size w (U0.setCell ⟨w.heap.size + 2,24,none⟩ (.slice aP L.length cP)):=((Only.refl (w.heap.size + 2) U0).setCell 24 _).belowK (by omega) G0
 have O1:Only (w.heap.size + 2) v0 (U0.setCell ⟨w.heap.size + 2,24,none⟩ (.slice aP L.length cP)):=O0.setCell 24 _
 have p1:=B0 24 _ rfl
 have q1:=(Y0 24 (by decide)).2
 rw [Nat.zero_add] at p1 q1
 obtain ⟨U1,hU1⟩:∃ U1,(U0.setCell ⟨w.heap.size + 2,24,none⟩ (.slice aP L.length cP))=U1:=⟨_,rfl⟩
 rw [hU1] at B1 Y1 T1 G1 O1
 have B2:=bm_set1 B1 25 (.string D) ({ ms0 with kind:=K,xid:=X,prt:=PT,aa:=aP,la:=L,ca:=cP,dat:=D }:Ms) (by decide) rfl
 have Y2:=there_set1 (c:=(w.heap.size + 2)) Y1 25 (.string D)
 have T2:=there_set1 (c:=(w.heap.size + 2)) T1 25 (.string D)
 have G2:Below w.heap.size w (U1.setCell ⟨w.heap.size + 2,25,none⟩ (.string D)):=((Only.refl (w.heap.size + 2) U1).setCell 25 _).belowK (by omega) G1
 have O2:Only (w.heap.size + 2) v0 (U1.setCell ⟨w.heap.size + 2,25,none⟩ (.string D)):=O1.setCell 25 _
 have p2:=B1 25 _ rfl
 have q2:=(Y1 25 (by decide)).2
 rw [Nat.zero_add] at p2 q2
 obtain ⟨U2,hU2⟩:∃ U2,(U1.setCell ⟨w.heap.size + 2,25,none⟩ (.string D))=U2:=⟨_,rfl⟩
 rw [hU2] at B2 Y2 T2 G2 O2
 have HU:Hid (∀ V,Only w.heap.size U2 V→((∀ V',Keeps w.heap.size V V'→MW V' ({ ms0 with kind:=K,xid:=X,prt:=PT,aa:=aP,la:=L,ca:=cP,dat:=D }:Ms))∧MU ({ ms0 with kind:=K,xid:=X,prt:=PT,aa:=aP,la:=L,ca:=cP,dat:=D }:Ms))∧Below w.heap.size w V):=(show ∀ V,_ from fun V o=>⟨kp2 (fun V' q=>mwa V' rfl rfl rfl rfl (TsF.here TF.out O2 o (by omega) (by omega) q (by omega)) hL hA.out hD),o.belowK (Nat.le_refl _) G2⟩)
 clear TF O0 O1 O2 hA
 go_wp2_with (first | (refine load_Mg rfl (.tmp 4) rfl (w.heap.size + 2) ({ ms0 with kind:=K,xid:=X,prt:=PT,aa:=aP,la:=L,ca:=cP,dat:=D }:Ms) rfl B2 ?_) | (refine store_M rfl (.tmp 2) (.tmp 85) rfl w.heap.size ({ ms0 with kind:=K,xid:=X,prt:=PT,aa:=aP,la:=L,ca:=cP,dat:=D }:Ms) rfl rfl T2 ?_;intro V bV tV oV))
 obtain ⟨⟨mw,mu⟩,gV⟩:=HU.out V oV
 refine bodyPost_ret (resM (b:=w.heap.size) (m:=({ ms0 with kind:=K,xid:=X,prt:=PT,aa:=aP,la:=L,ca:=cP,dat:=D }:Ms)) rfl rfl bV) rfl ?_
 exact ⟨({ ms0 with kind:=K,xid:=X,prt:=PT,aa:=aP,la:=L,ca:=cP,dat:=D }:Ms),rfl,(show _=_ by rw [HM.out];rfl),mw,mu,gV⟩
theorem read_15' (d:ByteArray) (w:World) (hs:d.size≤65535) (hd:Ct w) (k1:(hdK d == 1)=false) (k2:(hdK d == 2)=false) (k3:(hdK d == 3)=false) (k12:(hdK d == 12)=false) (k13:(hdK d == 13)=false) (k14:(hdK d == 14)=false) (k15:(hdK d == 15)=true):Calls Tryz.prog 23 #[.string d] w (RdM d w):=by
 have HM:Hid (readM d={ msg0 (hdK d) (hdX d) with cmd:=(hdR d).num 2,gid:=gpI (hdR d),gkd:=gpK (hdR d),gb:=gpB (hdR d) }):=(show _=_ by
  simp only [beq_eq_false_iff_ne,beq_iff_eq] at k1 k2 k3 k12 k13 k14 k15
  unfold readM
  simp [*])
 have hs':d.size≤maxLen:=by unfold maxLen;omega
 have hwp:=hd.a.pos
 obtain ⟨z4,hj,W0,t0,s0,g0,HW0,HR,N1,N2,N3,N4⟩:=rd_set d w hs hd
 have z5:(hdR d).s.size≤maxLen:=by unfold maxLen;omega
 have N5:Hid (∀ w_1,Rd w_1 (w.heap.size + 1) (hdR d).s (hdR d).e∧(w.heap.size + 1) < w_1.heap.size∧Below w.heap.size w w_1→Calls Tryz.prog 53 #[.pointer (some ⟨w.heap.size + 1,0,none⟩)] w_1 fun x w'=>∃ a l cap,x=.returned (.tuple #[.int .i64 ((hdR d).num 2),.agg #[.int .i64 (gpI (hdR d)),.int .i64 (gpK (hdR d)),.slice a l.length cap]])∧Hid (l.map Bk.b3=gpB (hdR d))∧Hid (BsF w_1.heap.size w' a l)∧l.length≤100000∧Grb (w.heap.size + 1) w_1 w'):=(show ∀ w_1,Rd w_1 (w.heap.size + 1) _ _∧_→_ from fun w_1 h=>(readG_any (w.heap.size + 1) (hdR d) w_1 z4 hj h.2.1 (by omega) ((Grb.ofBelow (b:=(w.heap.size + 1)) h.2.2).cd hd (by omega)) h.1).mono fun _ _ ⟨a,l,c,h1,h2,h3,h4,h5⟩=>⟨a,l,c,h1,(show _=_ from h2),(show BsF _ _ _ _ from h3),h4,h5⟩)
 generalize hdK d=K at *
 generalize hdX d=X at *
 generalize (hdR d).num 2=CM at *
 generalize gpI (hdR d)=GI at *
 generalize gpK (hdR d)=GK at *
 go_enter Tryz.func23,Tryz.ntmps23
 go_wp2_with fail
 rw [HW0.out]
 refine HR.out.mono ?_
 rintro x w1 ⟨rfl,r1,t1,s1,g1⟩
 go_wp2_with fail
 refine (N1.out _ r1).mono ?_
 rintro x w2 ⟨rfl,r2,o2⟩
 go_wp2_with fail
 refine (N2.out _ r2).mono ?_
 rintro x w3 ⟨rfl,r3,o3⟩
 have O3:=o2.trans o3
 have t3:=there_block t1 (O3.block w.heap.size (by omega))
 have s3:w3.heap.size=w.heap.size + 2:=O3.size.trans s1
 have g3:Below w.heap.size w w3:=O3.belowK (by omega) g1
 obtain ⟨hY,HV⟩:=rd_v K t3 s3 g3 r3
 clear o2 o3 O3 t1 s1 g1 r1 r2 r3 t3 g3 t0 s0 g0
 go_wp2_with (first | (refine build_M rfl (.tmp 10) rfl K rfl ?_) | (refine store_M rfl (.tmp 4) (.tmp 11) rfl (w.heap.size + 2) { ms0 with kind:=K } rfl rfl hY ?_;intro W3 bW tW oW))
 obtain ⟨b3,y3,t3',r3',g3',s3'⟩:=HV.out W3 bW tW oW
 clear bW tW oW HV hY
 refine (N3.out _ r3').mono ?_
 rintro x w4 ⟨rfl,r4,o4⟩
 go_wp2_with fail
 refine (N4.out _ r4).mono ?_
 rintro x w5 ⟨rfl,r5,o5⟩
 obtain ⟨U,hU',b6,y6,t6,r6,g6,s6,c1,f1,u0⟩:=rd_u X b3 y3 t3' g3' s3' r5 (o4.trans o5)
 clear o4 o5 b3 y3 t3' r3' g3' s3' r4 r5
 go_wp2_with fail
 refine (N5.out _ ⟨r6,by omega,g6⟩).mono ?_
 rintro x v0 ⟨aP,L,cP,rfl,EG,TF,hL,ov0⟩
 have bv0:=b6.block (ov0.block (w.heap.size + 2) (by omega) (by omega))
 have yv0:=there_block y6 (ov0.block (w.heap.size + 2) (by omega) (by omega))
 have tv0:=there_block t6 (ov0.block w.heap.size (by omega) (by omega))
 have gv0:Below w.heap.size w v0:=ov0.below g6 (by omega) (by omega)
 have sv0:w.heap.size + 3≤v0.heap.size:=s6 ▸ ov0.size
 have B0:=bm_set1 bv0 2 (.int .i64 CM) ({ ms0 with kind:=K,xid:=X,cmd:=CM }:Ms) (by decide) rfl
 have Y0:=there_set1 (c:=(w.heap.size + 2)) yv0 2 (.int .i64 CM)
 have T0:=there_set1 (c:=(w.heap.size + 2)) tv0 2 (.int .i64 CM)
 have G0:Below w.heap.size w (v0.setCell ⟨w.heap.size + 2,2,none⟩ (.int .i64 CM)):=((Only.refl (w.heap.size + 2) v0).setCell 2 _).belowK (by omega) gv0
 have O0:Only (w.heap.size + 2) v0 (v0.setCell ⟨w.heap.size + 2,2,none⟩ (.int .i64 CM)):=(Only.refl (w.heap.size + 2) v0).setCell 2 _
 have p0:=bv0 2 _ rfl
 have q0:=(yv0 2 (by decide)).2
 rw [Nat.zero_add] at p0 q0
 obtain ⟨U0,hU0⟩:∃ U0,(v0.setCell ⟨w.heap.size + 2,2,none⟩ (.int .i64 CM))=U0:=⟨_,rfl⟩
 rw [hU0] at B0 Y0 T0 G0 O0
 have B1:=bm_set1 B0 14 (.int .i64 GI) ({ ms0 with kind:=K,xid:=X,cmd:=CM,gid:=GI }:Ms) (by decide) rfl
 have Y1:=there_set1 (c:=(w.heap.size + 2)) Y0 14 (.int .i64 GI)
 have T1:=there_set1 (c:=(w.heap.size + 2)) T0 14 (.int .i64 GI)
 have G1:Below w.heap.size w (U0.setCell ⟨w.heap.size + 2,14,none⟩ (.int .i64 GI)):=((Only.refl (w.heap.size + 2) U0).setCell 14 _).belowK (by omega) G0
 have O1:Only (w.heap.size + 2) v0 (U0.setCell ⟨w.heap.size + 2,14,none⟩ (.int .i64 GI)):=O0.setCell 14 _
 have p1:=B0 14 _ rfl
 have q1:=(Y0 14 (by decide)).2
 rw [Nat.zero_add] at p1 q1
 obtain ⟨U1,hU1⟩:∃ U1,(U0.setCell ⟨w.heap.size + 2,14,none⟩ (.int .i64 GI))=U1:=⟨_,rfl⟩
 rw [hU1] at B1 Y1 T1 G1 O1
 have B2:=bm_set1 B1 15 (.int .i64 GK) ({ ms0 with kind:=K,xid:=X,cmd:=CM,gid:=GI,gkd:=GK }:Ms) (by decide) rfl
 have Y2:=there_set1 (c:=(w.heap.size + 2)) Y1 15 (.int .i64 GK)
 have T2:=there_set1 (c:=(w.heap.size + 2)) T1 15 (.int .i64 GK)
 have G2:Below w.heap.size w (U1.setCell ⟨w.heap.size + 2,15,none⟩ (.int .i64 GK)):=((Only.refl (w.heap.size + 2) U1).setCell 15 _).belowK (by omega) G1
 have O2:Only (w.heap.size + 2) v0 (U1.setCell ⟨w.heap.size + 2,15,none⟩ (.int .i64 GK)):=O1.setCell 15 _
 have p2:=B1 15 _ rfl
 have q2:=(Y1 15 (by decide)).2
 rw [Nat.zero_add] at p2 q2
 obtain ⟨U2,hU2⟩:∃ U2,(U1.setCell ⟨w.heap.size + 2,15,none⟩ (.int .i64 GK))=U2:=⟨_,rfl⟩
 rw [hU2] at B2 Y2 T2 G2 O2
 have B3:=bm_set1 B2 16 (.slice aP L.length cP) ({ ms0 with kind:=K,xid:=X,cmd:=CM,gid:=GI,gkd:=GK,ga:=aP,gb:=L,gc:=cP }:Ms) (by decide) rfl
 have Y3:=there_set1 (c:=(w.heap.size + 2)) Y2 16 (.slice aP L.length cP)
 have T3:=there_set1 (c:=(w.heap.size + 2)) T2 16 (.slice aP L.length cP)
 have G3:Below w.heap.size w (U2.setCell ⟨w.heap.size + 2,16,none⟩ (.slice aP L.length cP)):=((Only.refl (w.heap.size + 2) U2).setCell 16 _).belowK (by omega) G2
 have O3:Only (w.heap.size + 2) v0 (U2.setCell ⟨w.heap.size + 2,16,none⟩ (.slice aP L.length cP)):=O2.setCell 16 _
 have p3:=B2 16 _ rfl
 have q3:=(Y2 16 (by decide)).2
 rw [Nat.zero_add] at p3 q3
 obtain ⟨U3,hU3⟩:∃ U3,(U2.setCell ⟨w.heap.size + 2,16,none⟩ (.slice aP L.length cP))=U3:=⟨_,rfl⟩
 rw [hU3] at B3 Y3 T3 G3 O3
 have HU:Hid (∀ V,Only w.heap.size U3 V→((∀ V',Keeps w.heap.size V V'→MW V' ({ ms0 with kind:=K,xid:=X,cmd:=CM,gid:=GI,gkd:=GK,ga:=aP,gb:=L,gc:=cP }:Ms))∧MU ({ ms0 with kind:=K,xid:=X,cmd:=CM,gid:=GI,gkd:=GK,ga:=aP,gb:=L,gc:=cP }:Ms))∧Below w.heap.size w V):=(show ∀ V,_ from fun V o=>⟨kp2 (fun V' q=>mwg V' rfl rfl (BsF.here TF.out O3 o (by omega) (by omega) q (by omega)) hL (aw_b3 EG.out) rfl rfl (show (ByteArray.mk #[]).size≤100000 by decide)),o.belowK (Nat.le_refl _) G3⟩)
 clear TF O0 O1 O2 O3
 go_wp2_with (first | (refine load_Mg rfl (.tmp 4) rfl (w.heap.size + 2) ({ ms0 with kind:=K,xid:=X,cmd:=CM,gid:=GI,gkd:=GK,ga:=aP,gb:=L,gc:=cP }:Ms) rfl B3 ?_) | (refine store_M rfl (.tmp 2) (.tmp 85) rfl w.heap.size ({ ms0 with kind:=K,xid:=X,cmd:=CM,gid:=GI,gkd:=GK,ga:=aP,gb:=L,gc:=cP }:Ms) rfl rfl T3 ?_;intro V bV tV oV))
 obtain ⟨⟨mw,mu⟩,gV⟩:=HU.out V oV
 refine bodyPost_ret (resM (b:=w.heap.size) (m:=({ ms0 with kind:=K,xid:=X,cmd:=CM,gid:=GI,gkd:=GK,ga:=aP,gb:=L,gc:=cP }:Ms)) rfl rfl bV) rfl ?_
 exact ⟨({ ms0 with kind:=K,xid:=X,cmd:=CM,gid:=GI,gkd:=GK,ga:=aP,gb:=L,gc:=cP }:Ms),rfl,(show _=_ by rw [HM.out,← EG.out];rfl),mw,mu,gV⟩
theorem read_14' (d:ByteArray) (w:World) (hs:d.size≤65535) (hd:Ct w) (k1:(hdK d == 1)=false) (k2:(hdK d == 2)=false) (k3:(hdK d == 3)=false) (k12:(hdK d == 12)=false) (k13:(hdK d == 13)=false) (k14:(hdK d == 14)=true):Calls Tryz.prog 23 #[.string d] w (RdM d w):=by
 have HM:Hid (readM d={ msg0 (hdK d) (hdX d) with cmd:=flC (hdR d),chk:=flK (hdR d),pri:=flP (hdR d),ts:=flTs (flL (hdR d)),sp:=(decX (flT (hdR d)) ((flL (hdR d)).extract (flN (flL (hdR d))).toNat (flL (hdR d)).size)).1 }):=(show _=_ by
  simp only [beq_eq_false_iff_ne,beq_iff_eq] at k1 k2 k3 k12 k13 k14
  unfold readM
  simp [*])
 have hs':d.size≤maxLen:=by unfold maxLen;omega
 have hwp:=hd.a.pos
 obtain ⟨z4,hj,W0,t0,s0,g0,HW0,HR,N1,N2,N3,N4⟩:=rd_set d w hs hd
 have z5:(hdR d).s.size≤maxLen:=by unfold maxLen;omega
 have hT:(flTs (flL (hdR d))).length≤1000:=flTs_few _
 have hTW:Hid (Mt.TWs (flTs (flL (hdR d)))):=flTs_w _
 have hA:Hid (AWs (decX (flT (hdR d)) ((flL (hdR d)).extract (flN (flL (hdR d))).toNat (flL (hdR d)).size)).1.la∧AWs (decX (flT (hdR d)) ((flL (hdR d)).extract (flN (flL (hdR d))).toNat (flL (hdR d)).size)).1.lw):=decX_aw _ _
 have N5:Hid (∀ w_1,Rd w_1 (w.heap.size + 1) (hdR d).s (hdR d).e∧(w.heap.size + 1) < w_1.heap.size∧Below w.heap.size w w_1→Calls Tryz.prog 52 #[.pointer (some ⟨w.heap.size + 1,0,none⟩)] w_1 fun x w'=>∃ y:En,x=.returned (.tuple #[.int .i64 (flC (hdR d)),.bool (flK (hdR d)),enV y])∧Hid (y.sp=(decX (flT (hdR d)) ((flL (hdR d)).extract (flN (flL (hdR d))).toNat (flL (hdR d)).size)).1∧y.pri=flP (hdR d)∧y.tl=(flTs (flL (hdR d))).length∧(flTs (flL (hdR d))).length≤y.tc∧Mt.TsF w_1.heap.size w' y.ta (flTs (flL (hdR d)))∧EF w_1.heap.size w' y∧SOk y.sp)∧Grb (w.heap.size + 1) w_1 w'):=(show ∀ w_1,Rd w_1 (w.heap.size + 1) _ _∧_→_ from fun w_1 h=>(readF_any (w.heap.size + 1) (hdR d) w_1 z4 h.2.1 (by omega) ((Grb.ofBelow (b:=(w.heap.size + 1)) h.2.2).cd hd (by omega)) h.1).mono fun _ _ ⟨y,h1,h2,h3,h4,h5,h6,h7,h8,h9⟩=>⟨y,h1,(show _∧_ from ⟨h2,h3,h4,h5,h6,h7,h8⟩),h9⟩)
 generalize hdK d=K at *
 generalize hdX d=X at *
 generalize (decX (flT (hdR d)) ((flL (hdR d)).extract (flN (flL (hdR d))).toNat (flL (hdR d)).size)).1=SP at *
 generalize flC (hdR d)=CM at *
 generalize flK (hdR d)=CK at *
 generalize flP (hdR d)=PR at *
 generalize flTs (flL (hdR d))=TS at *
 go_enter Tryz.func23,Tryz.ntmps23
 go_wp2_with fail
 rw [HW0.out]
 refine HR.out.mono ?_
 rintro x w1 ⟨rfl,r1,t1,s1,g1⟩
 go_wp2_with fail
 refine (N1.out _ r1).mono ?_
 rintro x w2 ⟨rfl,r2,o2⟩
 go_wp2_with fail
 refine (N2.out _ r2).mono ?_
 rintro x w3 ⟨rfl,r3,o3⟩
 have O3:=o2.trans o3
 have t3:=there_block t1 (O3.block w.heap.size (by omega))
 have s3:w3.heap.size=w.heap.size + 2:=O3.size.trans s1
 have g3:Below w.heap.size w w3:=O3.belowK (by omega) g1
 obtain ⟨hY,HV⟩:=rd_v K t3 s3 g3 r3
 clear o2 o3 O3 t1 s1 g1 r1 r2 r3 t3 g3 t0 s0 g0
 go_wp2_with (first | (refine build_M rfl (.tmp 10) rfl K rfl ?_) | (refine store_M rfl (.tmp 4) (.tmp 11) rfl (w.heap.size + 2) { ms0 with kind:=K } rfl rfl hY ?_;intro W3 bW tW oW))
 obtain ⟨b3,y3,t3',r3',g3',s3'⟩:=HV.out W3 bW tW oW
 clear bW tW oW HV hY
 refine (N3.out _ r3').mono ?_
 rintro x w4 ⟨rfl,r4,o4⟩
 go_wp2_with fail
 refine (N4.out _ r4).mono ?_
 rintro x w5 ⟨rfl,r5,o5⟩
 obtain ⟨U,hU',b6,y6,t6,r6,g6,s6,c1,f1,u0⟩:=rd_u X b3 y3 t3' g3' s3' r5 (o4.trans o5)
 clear o4 o5 b3 y3 t3' r3' g3' s3' r4 r5
 go_wp2_with fail
 refine (N5.out _ ⟨r6,by omega,g6⟩).mono ?_
 rintro x v0 ⟨y,rfl,EY,ov0⟩
 have bv0:=b6.block (ov0.block (w.heap.size + 2) (by omega) (by omega))
 have yv0:=there_block y6 (ov0.block (w.heap.size + 2) (by omega) (by omega))
 have tv0:=there_block t6 (ov0.block w.heap.size (by omega) (by omega))
 have gv0:Below w.heap.size w v0:=ov0.below g6 (by omega) (by omega)
 have sv0:w.heap.size + 3≤v0.heap.size:=s6 ▸ ov0.size
 have B0:=bm_set1 bv0 2 (.int .i64 CM) ({ ms0 with kind:=K,xid:=X,cmd:=CM }:Ms) (by decide) rfl
 have Y0:=there_set1 (c:=(w.heap.size + 2)) yv0 2 (.int .i64 CM)
 have T0:=there_set1 (c:=(w.heap.size + 2)) tv0 2 (.int .i64 CM)
 have G0:Below w.heap.size w (v0.setCell ⟨w.heap.size + 2,2,none⟩ (.int .i64 CM)):=((Only.refl (w.heap.size + 2) v0).setCell 2 _).belowK (by omega) gv0
 have O0:Only (w.heap.size + 2) v0 (v0.setCell ⟨w.heap.size + 2,2,none⟩ (.int .i64 CM)):=(Only.refl (w.heap.size + 2) v0).setCell 2 _
 have p0:=bv0 2 _ rfl
 have q0:=(yv0 2 (by decide)).2
 rw [Nat.zero_add] at p0 q0
 obtain ⟨U0,hU0⟩:∃ U0,(v0.setCell ⟨w.heap.size + 2,2,none⟩ (.int .i64 CM))=U0:=⟨_,rfl⟩
 rw [hU0] at B0 Y0 T0 G0 O0
 have B1:=bm_set1 B0 3 (.bool CK) ({ ms0 with kind:=K,xid:=X,cmd:=CM,chk:=CK }:Ms) (by decide) rfl
 have Y1:=there_set1 (c:=(w.heap.size + 2)) Y0 3 (.bool CK)
 have T1:=there_set1 (c:=(w.heap.size + 2)) T0 3 (.bool CK)
 have G1:Below w.heap.size w (U0.setCell ⟨w.heap.size + 2,3,none⟩ (.bool CK)):=((Only.refl (w.heap.size + 2) U0).setCell 3 _).belowK (by omega) G0
 have O1:Only (w.heap.size + 2) v0 (U0.setCell ⟨w.heap.size + 2,3,none⟩ (.bool CK)):=O0.setCell 3 _
 have p1:=B0 3 _ rfl
 have q1:=(Y0 3 (by decide)).2
 rw [Nat.zero_add] at p1 q1
 obtain ⟨U1,hU1⟩:∃ U1,(U0.setCell ⟨w.heap.size + 2,3,none⟩ (.bool CK))=U1:=⟨_,rfl⟩
 rw [hU1] at B1 Y1 T1 G1 O1
 have HT:Hid (U1.there (w.heap.size + 2) 4 10):=(show World.there _ _ _ _ from fun i hi=>by have:=Y1 (4 + i) (by omega);rwa [Nat.zero_add] at this)
 have BF:Bm (U1.setCells (w.heap.size + 2) 4 (enC y).toList) (w.heap.size + 2) ({ ms0 with kind:=K,xid:=X,cmd:=CM,chk:=CK,en:=y,ts:=TS }:Ms):=bm_mid B1 Y1 4 (enC y).toList ({ ms0 with kind:=K,xid:=X,cmd:=CM,chk:=CK,en:=y,ts:=TS }:Ms) (show 4 + 10≤26 by decide) rfl
 have TT:World.there (U1.setCells (w.heap.size + 2) 4 (enC y).toList) w.heap.size 0 26:=World.there_setCells T1 (w.heap.size + 2) 4 _
 have OF:Only (w.heap.size + 2) v0 (U1.setCells (w.heap.size + 2) 4 (enC y).toList):=only_cells (w.heap.size + 2) (enC y).toList 4 v0 U1 O1
 have GF:Below w.heap.size w (U1.setCells (w.heap.size + 2) 4 (enC y).toList):=(only_cells (w.heap.size + 2) (enC y).toList 4 U1 U1 (Only.refl _ _)).belowK (by omega) G1
 obtain ⟨UF,hUF⟩:∃ UF,U1.setCells (w.heap.size + 2) 4 (enC y).toList=UF:=⟨_,rfl⟩
 rw [hUF] at BF TT OF GF
 have HW:Hid (U1.setCells (w.heap.size + 2) 4 (enC y).toList=UF):=hUF
 clear hUF
 have HU:Hid (∀ V,Only w.heap.size UF V→((∀ V',Keeps w.heap.size V V'→MW V' ({ ms0 with kind:=K,xid:=X,cmd:=CM,chk:=CK,en:=y,ts:=TS }:Ms))∧MU ({ ms0 with kind:=K,xid:=X,cmd:=CM,chk:=CK,en:=y,ts:=TS }:Ms))∧Below w.heap.size w V):=(show ∀ V,_ from fun V o=>⟨kp2 (fun V' q=>mwf V' (EF.here EY.out.2.2.2.2.2.1 OF o (by omega) (by omega) q (by omega)) (mtF_here EY.out.2.2.2.2.1 OF o (by omega) (by omega) q (by omega)) EY.out.2.2.1 hT EY.out.2.2.2.1 (have u:=EY.out.2.2.2.2.2.2;⟨u.t0,u.t1,u.k0,u.k1⟩) hTW.out (EY.out.1 ▸ hA.out.1:AWs y.sp.la) (EY.out.1 ▸ hA.out.2:AWs y.sp.lw) rfl rfl rfl rfl (show (ByteArray.mk #[]).size≤100000 by decide)),o.belowK (Nat.le_refl _) GF⟩)
 clear O0 O1 OF hA hTW
 go_wp2_with (first | (refine wpList_store_mid rfl 26 (.tmp 66) (.tmp 63) rfl (w.heap.size + 2) 4 (enC y) rfl rfl HT.out (hiE y) (oneE y) ?_;rw [HW.out]) | (refine load_Mg rfl (.tmp 4) rfl (w.heap.size + 2) ({ ms0 with kind:=K,xid:=X,cmd:=CM,chk:=CK,en:=y,ts:=TS }:Ms) rfl BF ?_) | (refine store_M rfl (.tmp 2) (.tmp 85) rfl w.heap.size ({ ms0 with kind:=K,xid:=X,cmd:=CM,chk:=CK,en:=y,ts:=TS }:Ms) rfl rfl TT ?_;intro V bV tV oV))
 obtain ⟨⟨mw,mu⟩,gV⟩:=HU.out V oV
 refine bodyPost_ret (resM (b:=w.heap.size) (m:=({ ms0 with kind:=K,xid:=X,cmd:=CM,chk:=CK,en:=y,ts:=TS }:Ms)) rfl rfl bV) rfl ?_
 exact ⟨({ ms0 with kind:=K,xid:=X,cmd:=CM,chk:=CK,en:=y,ts:=TS }:Ms),rfl,(show _=_ by rw [HM.out,← EY.out.1,← EY.out.2.1];rfl),mw,mu,gV⟩
theorem readMsg_any (d:ByteArray) (w:World) (hs:d.size≤65535) (hd:Ct w):Calls Tryz.prog 23 #[.string d] w (RdM d w):=by
 by_cases h1:(hdK d == 1)=true
 ·exact read_1' d w hs hd h1
 have g1:=Bool.eq_false_iff.2 h1
 by_cases h2:(hdK d == 2)=true
 ·exact read_2' d w hs hd g1 h2
 have g2:=Bool.eq_false_iff.2 h2
 by_cases h3:(hdK d == 3)=true
 ·exact read_3' d w hs hd g1 g2 h3
 have g3:=Bool.eq_false_iff.2 h3
 by_cases h12:(hdK d == 12)=true
 ·exact read_12' d w hs hd g1 g2 g3 h12
 have g12:=Bool.eq_false_iff.2 h12
 by_cases h13:(hdK d == 13)=true
 ·exact read_13' d w hs hd g1 g2 g3 g12 h13
 have g13:=Bool.eq_false_iff.2 h13
 by_cases h14:(hdK d == 14)=true
 ·exact read_14' d w hs hd g1 g2 g3 g12 g13 h14
 have g14:=Bool.eq_false_iff.2 h14
 by_cases h15:(hdK d == 15)=true
 ·exact read_15' d w hs hd g1 g2 g3 g12 g13 g14 h15
 have g15:=Bool.eq_false_iff.2 h15
 by_cases h29:(hdK d == 29)=true
 ·exact read_29' d w hs hd g1 g2 g3 g12 g13 g14 g15 h29
 have g29:=Bool.eq_false_iff.2 h29
 exact read_n' d w hs hd g1 g2 g3 g12 g13 g14 g15 g29
end Go.Proofs.YtlcbfdiohcbpbaaGreatDoor

import Derived.Test.YtlcbfdiohcbpbaaGreatDoorRows
import Derived.Test.YtlcbfdiohcbpbaaGreatDoorShelf
import Derived.WalkKit
import Derived.Laws.BitsLemmas
import Derived.Laws.BytesArg
import Derived.ProofKit
import Derived.OpenShut
import Derived.Handy
import Derived.BigQuiet
import Derived.Deep.RegionWith
import Derived.Laws.ResultCell
import Derived.Laws.StructEq
namespace Go.Proofs.YtlcbfdiohcbpbaaGreatDoor
set_option maxRecDepth 20000
set_option maxHeartbeats 4000000
abbrev A:=Int × Int × Int
structure AW (a:A):Prop where
 f0 : -9223372036854775808≤a.2.1
 f1:a.2.1 < 9223372036854775808
 v0:0≤a.2.2
 v1:a.2.2 < 18446744073709551616
abbrev AWs (l:List A):Prop:=∀ a ∈ l,AW a
theorem wrap_u (n:Int):IntKind.u64.wrap n=n % 18446744073709551616:=by simp [IntKind.wrap,IntKind.bits,IntKind.signed]
theorem wrap_nat (b:BitVec 64):IntKind.u64.wrap (b.toNat:Int)=(b.toNat:Int):=by rw [wrap_u];have:=b.isLt;omega
abbrev bv (x:Int):BitVec 64:=BitVec.ofInt 64 x
theorem nat_bv (x:Int) (h0:0≤x) (h1:x < 18446744073709551616):((bv x).toNat:Int)=x:=by
 rw [BitVec.toNat_ofInt]
 omega
theorem u_and (x y:Int):bits .and .u64 x y=((bv x &&& bv y).toNat:Int):=wrap_nat _
theorem u_not (x y:Int):bits .andNot .u64 x y=((bv x &&& ~~~bv y).toNat:Int):=wrap_nat _
theorem nat_inj {a b:BitVec 64} (h:(a.toNat:Int)=(b.toNat:Int)):a=b:=BitVec.eq_of_toNat_eq (by omega)
theorem and_iff (x y z:Int) (h0:0≤z) (h1:z < 18446744073709551616):bits .and .u64 x y=z↔bv x &&& bv y=bv z:=by
 rw [u_and]
 constructor
 ·intro h
  apply nat_inj
  rw [h,nat_bv z h0 h1]
 ·intro h
  rw [h,nat_bv z h0 h1]
theorem bv_ext {a b:BitVec 64} (h:∀ i,a.getLsbD i=b.getLsbD i):a=b:=BitVec.eq_of_getLsbD_eq fun i _=>h i
theorem bit_of {a b:BitVec 64} (h:a=b) (i:Nat):a.getLsbD i=b.getLsbD i:=by rw [h]
theorem not_iff (v m:Int) (h0:0≤v) (h1:v < 18446744073709551616):bits .andNot .u64 v m=0↔bits .and .u64 v m=v:=by
 rw [and_iff v m v h0 h1,u_not]
 constructor
 ·intro h
  have h':bv v &&& ~~~bv m=0#64:=BitVec.eq_of_toNat_eq (by simpa using h)
  apply bv_ext
  intro i
  have:=bit_of h' i
  by_cases hi:i < 64
  ·simp [hi] at this ⊢
   exact this
  ·rw [BitVec.getLsbD_of_ge _ _ (by omega),BitVec.getLsbD_of_ge _ _ (by omega)]
 ·intro h
  have h':bv v &&& ~~~bv m=0#64:=by
   apply bv_ext
   intro i
   have:=bit_of h i
   by_cases hi:i < 64
   ·simp [hi] at this ⊢
    exact this
   ·rw [BitVec.getLsbD_of_ge _ _ (by omega),BitVec.getLsbD_of_ge _ _ (by omega)]
  rw [h']
  rfl
theorem le_of_and (v m:Int) (g0:0≤m) (g1:m < 18446744073709551616) (h:bits .and .u64 v m=v):v≤m:=by
 rw [u_and,BitVec.toNat_and] at h
 have:=nat_bv m g0 g1
 have:=Nat.and_le_right (n:=(bv v).toNat) (m:=(bv m).toNat)
 omega
theorem wraps_u64 (n:Int) (h₀:0≤n) (h₁:n < 2 ^ 64):IntKind.u64.wrap n=n:=by rw [wrap_u];omega
theorem and_u (j:Nat) (hj:j≤64) (a:Int) (h0:0≤a) (h1:a < 2 ^ 64):bits .and .u64 a (2 ^ j - 1)=a % 2 ^ j:=bits_mask .u64 64 (by decide) wraps_u64 j hj a h0 h1
def pieces (n:Int):Nat→List Int
 | 0=>[]
 | k + 1=>pieces (n / 256) k ++ [n % 256]
def szB (n:Int):Bool:=decide (1≤n) && decide (n≤8)
def stepN (v:Int) (c:UInt8):Int:=bits .or .u64 (IntKind.u64.wrap (v * 256)) (IntKind.u64.wrap (c.toNat:Int))
def numOf (l:List UInt8):Int:=l.foldl stepN 0
theorem stepN_eq (v:Int) (c:UInt8) (h0:0≤v) (h1:v < 72057594037927936):stepN v c=v * 256 + (c.toNat:Int):=by
 have hc:(c.toNat:Int) < 256:=by have:=c.toNat_lt;omega
 unfold stepN
 rw [wraps_u64 _ (by omega) (by omega),wraps_u64 _ (by omega) (by omega)]
 exact bits_join .u64 64 (by decide) wraps_u64 8 _ _ (by omega) (by omega) (by omega) (by omega) (by omega) (by omega)
theorem numOf_snoc (l:List UInt8) (c:UInt8):numOf (l ++ [c])=stepN (numOf l) c:=by simp [numOf]
theorem numOf_pieces:∀ (k:Nat) (n:Int),k≤8→0≤n→n < 256 ^ k→numOf ((pieces n k).map fun n=>UInt8.ofNat n.toNat)=n
  | 0,n,_,h0,h1=>by
    have:n=0:=by simp at h1;omega
    subst this;rfl
  | k + 1,n,hk,h0,h1=>by
    have hd:n / 256 < 256 ^ k:=by
      apply Int.ediv_lt_of_lt_mul (by omega)
      rw [Int.pow_succ] at h1;exact h1
    have ih:=numOf_pieces k (n / 256) (by omega) (by omega) hd
    have hb:(256:Int) ^ k≤72057594037927936:=by
      have h:=Nat.pow_le_pow_right (show 0 < 256 by decide) (show k≤7 by omega)
      have h2:((256 ^ k:Nat):Int)≤72057594037927936:=by omega
      rwa [Int.natCast_pow] at h2
    simp only [pieces,List.map_append,List.map_cons,List.map_nil,numOf_snoc,ih]
    rw [stepN_eq _ _ (by omega) (by omega),UInt8.toNat_ofNat']
    omega
theorem pieces_length:∀ (k:Nat) (n:Int),(pieces n k).length=k
 | 0,_=>rfl
 | k + 1,n=>by simp [pieces,pieces_length k]
theorem take_snoc (s:ByteArray) (k:Nat) (h:k < s.size):s.data.toList.take (k + 1)=s.data.toList.take k ++ [s[k]]:=by
 rw [List.take_succ_eq_append_getElem (by simpa using h)];rfl
theorem numOf_take (s:ByteArray) (k:Nat) (h:k < s.size):numOf (s.data.toList.take (k + 1))=stepN (numOf (s.data.toList.take k)) s[k]:=by
 rw [take_snoc s k h,numOf_snoc]
theorem numOf_lt:∀ (l:List UInt8),l.length≤8→0≤numOf l∧numOf l < 256 ^ l.length:=by
  intro l
  induction h:l.length generalizing l with
  | zero=>intro _;rw [List.length_eq_zero_iff] at h;subst h;exact ⟨by decide,by decide⟩
  | succ k ih =>
    intro hk
    have hne:l≠[]:=by intro h0;subst h0;simp at h
    have e:=List.dropLast_concat_getLast hne
    have hl:l.dropLast.length=k:=by simp [h]
    obtain ⟨i0,i1⟩:=ih l.dropLast hl (by omega)
    rw [← e,numOf_snoc]
    have hb:(256:Int) ^ k≤72057594037927936:=by
      have h:=Nat.pow_le_pow_right (show 0 < 256 by decide) (show k≤7 by omega)
      have h2:((256 ^ k:Nat):Int)≤72057594037927936:=by omega
      rwa [Int.natCast_pow] at h2
    have hc:=(l.getLast hne).toNat_lt
    rw [stepN_eq _ _ i0 (by omega),Int.pow_succ]
    omega
def pb (n:Int) (k:Nat):ByteArray:=strOfNums (pieces n k)
theorem pb_size (n:Int) (k:Nat):(pb n k).size=k:=by unfold pb;rw [strOfNums_size,pieces_length]
theorem ba_ext {a b:ByteArray} (h:a.data.toList=b.data.toList):a=b:=by
 cases a;cases b;simpa using h
theorem ba_append (a b:ByteArray):(a ++ b).data.toList=a.data.toList ++ b.data.toList:=by simp
theorem strOf_list (l:List Int):(strOfNums l).data.toList=l.map fun n=>UInt8.ofNat n.toNat:=by simp [strOfNums]
def noB:ByteArray:=⟨#[]⟩
def takeV (s:ByteArray) (e n:Int) (may:Bool):ByteArray:=if e=0∧may=true∧n≤s.size then s.extract 0 n.toNat else noB
def takeS (s:ByteArray) (e n:Int) (may:Bool):ByteArray:=if e=0 then (if may=true∧n≤s.size then s.extract n.toNat s.size else noB) else s
def takeE (s:ByteArray) (e n:Int) (may:Bool):Int:=if e=0 then (if may=true then (if n≤s.size then 0 else 10) else 1) else e
theorem takeV_size (s:ByteArray) (e n:Int) (may:Bool):(takeV s e n may).size≤s.size:=by
 unfold takeV;split
 ·rw [ByteArray.size_extract];omega
 ·exact Nat.zero_le _
def numV (s:ByteArray) (e n:Int):Int:=numOf (takeV s e n (szB n)).data.toList
structure RS where
 s:ByteArray
 e:Int
def RS.num (r:RS) (n:Int):Int:=numV r.s r.e n
def RS.skip (r:RS) (n:Int):RS:=⟨takeS r.s r.e n (szB n),takeE r.s r.e n (szB n)⟩
def RS.jump (r:RS) (n:Int):RS:=⟨takeS r.s r.e n (decide (0≤n)),takeE r.s r.e n (decide (0≤n))⟩
def RS.bytes (r:RS) (n:Int):ByteArray:=takeV r.s r.e n (decide (0≤n))
theorem takeS_size (s:ByteArray) (e n:Int) (may:Bool):(takeS s e n may).size≤s.size:=by
 unfold takeS;split
 ·split
  ·rw [ByteArray.size_extract];omega
  ·exact Nat.zero_le _
 ·exact Nat.le_refl _
theorem RS.skip_size (r:RS) (n:Int):(r.skip n).s.size≤r.s.size:=takeS_size _ _ _ _
theorem RS.jump_size (r:RS) (n:Int):(r.jump n).s.size≤r.s.size:=takeS_size _ _ _ _
theorem takeV_le (s:ByteArray) (e:Int) (k:Nat) (may:Bool):(takeV s e k may).size≤k:=by
 unfold takeV;split
 ·rw [ByteArray.size_extract];omega
 ·exact Nat.zero_le _
theorem RS.num_lt (r:RS) (k:Nat) (hk:k≤8):0≤r.num k∧r.num k < 256 ^ k:=by
 unfold RS.num numV
 have h:=takeV_le r.s r.e k (szB k)
 have hl:(takeV r.s r.e k (szB k)).data.toList.length≤k:=by simpa using h
 obtain ⟨a,b⟩:=numOf_lt (takeV r.s r.e k (szB k)).data.toList (by omega)
 refine ⟨a,Int.lt_of_lt_of_le b ?_⟩
 have:=Nat.pow_le_pow_right (show 0 < 256 by decide) hl
 have h2:=Int.ofNat_le.mpr this
 rw [Int.natCast_pow,Int.natCast_pow] at h2
 exact h2
theorem ap_assoc (a b c:ByteArray):a ++ b ++ c=a ++ (b ++ c):=by apply ba_ext;simp
theorem pb_list (n:Int) (k:Nat):(pb n k).data.toList=(pieces n k).map fun n=>UInt8.ofNat n.toNat:=strOf_list _
theorem pb_len (n:Int) (k:Nat):(pb n k).data.toList.length=k:=by rw [pb_list,List.length_map,pieces_length]
theorem extract_left (x t:ByteArray):(x ++ t).extract 0 x.size=x:=by
 apply ba_ext;simp
 exact List.take_of_length_le (by simp)
theorem extract_right (x t:ByteArray):(x ++ t).extract x.size (x ++ t).size=t:=by
 apply ba_ext
 have e:x.size=x.data.toList.length:=by simp
 simp only [ByteArray.data_extract,Array.toList_extract,ByteArray.data_append,ByteArray.size_append]
 rw [List.extract_eq_take_drop,e,Array.toList_append,List.drop_left]
 exact List.take_of_length_le (by simp)
theorem skip_ap (x t:ByteArray) (k:Nat) (hx:x.size=k) (hs:szB k=true):(⟨x ++ t,0⟩:RS).skip k=⟨t,0⟩:=by
 have hle:(k:Int)≤((x ++ t).size:Int):=by rw [ByteArray.size_append];omega
 unfold RS.skip takeS takeE
 simp only [hs,hle,and_self,if_true,Int.toNat_natCast]
 rw [← hx,extract_right]
theorem num_ap (n:Int) (t:ByteArray) (k:Nat) (hk:k≤8) (hs:szB k=true) (h0:0≤n) (h1:n < 256 ^ k):(⟨pb n k ++ t,0⟩:RS).num k=n:=by
 have hx:=pb_size n k
 have hle:(k:Int)≤((pb n k ++ t).size:Int):=by rw [ByteArray.size_append];omega
 unfold RS.num numV takeV
 simp only [hs,hle,and_self,if_true,Int.toNat_natCast]
 have e:(pb n k ++ t).extract 0 k=pb n k:=by
  have:=extract_left (pb n k) t
  rwa [hx] at this
 rw [e,pb_list]
 exact numOf_pieces k n hk h0 h1
theorem jump_ap (x t:ByteArray) (k:Nat) (hx:x.size=k):(⟨x ++ t,0⟩:RS).jump k=⟨t,0⟩:=by
 have hle:(k:Int)≤((x ++ t).size:Int):=by rw [ByteArray.size_append];omega
 have h0:(0:Int)≤(k:Int):=by omega
 unfold RS.jump takeS takeE
 simp only [h0,hle,and_self,if_true,Int.toNat_natCast,decide_true]
 rw [← hx,extract_right]
theorem bytes_all (t:ByteArray):(⟨t,0⟩:RS).bytes t.size=t:=by
 unfold RS.bytes takeV
 simp only [Int.natCast_nonneg,decide_true,Int.le_refl,and_self,if_true,Int.toNat_natCast]
 apply ba_ext;simp
theorem num1_ap (n:Int) (t:ByteArray) (h0:0≤n) (h1:n≤255):(⟨pb n 1 ++ t,0⟩:RS).num 1=n:=num_ap n t 1 (by omega) (by decide) h0 (by omega)
theorem num2_ap (n:Int) (t:ByteArray) (h0:0≤n) (h1:n≤65535):(⟨pb n 2 ++ t,0⟩:RS).num 2=n:=num_ap n t 2 (by omega) (by decide) h0 (by omega)
theorem num4_ap (n:Int) (t:ByteArray) (h0:0≤n) (h1:n < 4294967296):(⟨pb n 4 ++ t,0⟩:RS).num 4=n:=num_ap n t 4 (by omega) (by decide) h0 (by omega)
theorem skip1_ap (n:Int) (t:ByteArray):(⟨pb n 1 ++ t,0⟩:RS).skip 1=⟨t,0⟩:=skip_ap _ t 1 (pb_size _ _) (by decide)
theorem skip2_ap (n:Int) (t:ByteArray):(⟨pb n 2 ++ t,0⟩:RS).skip 2=⟨t,0⟩:=skip_ap _ t 2 (pb_size _ _) (by decide)
theorem skip4_ap (n:Int) (t:ByteArray):(⟨pb n 4 ++ t,0⟩:RS).skip 4=⟨t,0⟩:=skip_ap _ t 4 (pb_size _ _) (by decide)
open Go.ChangeShapes Go.WideShapes Go.ChangeAt Go.RowKit
abbrev tV (t:A):Value:=.agg #[.int .i64 t.1,.int .i64 t.2.1,.int .u64 t.2.2]
abbrev tC (t:A):Array Value:=#[.int .i64 t.1,.int .i64 t.2.1,.int .u64 t.2.2]
abbrev tx (w:World) (t:A):World:=w.alloc (.cells (tC t) 106)
abbrev C3 (w:World) (b o:Nat) (t:A):Prop:=w.cell? ⟨b,o,none⟩=some (.int .i64 t.1)∧w.cell? ⟨b,o + 1,none⟩=some (.int .i64 t.2.1)∧w.cell? ⟨b,o + 2,none⟩=some (.int .u64 t.2.2)
theorem C3.new (w:World) (t:A):C3 (tx w t) w.heap.size 0 t:=by unfold C3 tx;simp
theorem C3.block {w w':World} {b o:Nat} {t:A} (h:C3 w b o t) (g:w'.heap[b]? = w.heap[b]?):C3 w' b o t:=by
 obtain ⟨h0,h1,h2⟩:=h
 have e:∀ o,w'.cell? ⟨b,o,none⟩=w.cell? ⟨b,o,none⟩:=fun o=>World.cell?_of_block (w:=w) g
 exact ⟨(e _).trans h0,(e _).trans h1,(e _).trans h2⟩
theorem C3.below {w w':World} {b o B:Nat} {t:A} (h:C3 w b o t) (hb:b < B) (g:Below B w w'):C3 w' b o t:=h.block (g.block b hb)
def eqB (t u:A):Bool:=decide (t=u)
theorem eqB_true {t u:A}:eqB t u=true↔t=u:=by unfold eqB;simp
theorem eqB_false {t u:A}:eqB t u=false↔t≠u:=by unfold eqB;simp
theorem eqT (t u:A) (w:World):(binOp .eql 106 (tV t) (tV u)).run Tryz.prog w=.ok (.bool (eqB t u)) w:=by
 have u3:=Tryz.underlying3
 have a3:=Tryz.isAgg3
 have z3:=Tryz.sizeOf3
 have u4:=Tryz.underlying24
 have a4:=Tryz.isAgg24
 have z4:=Tryz.sizeOf24
 have hS:Tryz.prog.underlying 106=some (.struct (Tryz.prog.fieldsOf 106)):=by kernel_rfl
 have hp:Tryz.prog.stoodInHeld 106=false:=by kernel_rfl
 rw [run_eql_struct,show (10000:Nat)=9999 + 1 from rfl,run_equalIn_agg w 9999 106 _ _ hS hp]
 simp only [Program.fieldsOf,Tryz.underlying106]
 go_simp
 unfold eqB
 obtain ⟨a,b,c⟩:=t
 obtain ⟨x,y,z⟩:=u
 by_cases h1:a=x <;> by_cases h2:b=y <;> by_cases h3:c=z <;> simp [h1,h2,h3]
theorem guT (op:BinOp) (x y:Operand) (t u:A) (w:World):(eqGuard op 106 x y (tV t) (tV u)).run Tryz.prog w=.ok () w:=run_eqGuard_agg w op 106 x y _ _ (by kernel_rfl)
theorem neT (t u:A) (w:World):(binOp .neq 106 (tV t) (tV u)).run Tryz.prog w=.ok (.bool (!eqB t u)) w:=by
 have h:=eqT t u w
 rw [run_eql_struct] at h
 rw [run_neq_struct]
 generalize (Op.equalIn 10000 106 (tV t) (tV u)).run Tryz.prog w=r at h ⊢
 cases r with
 | ok b w'=>simp [Result.andThen] at h ⊢;exact ⟨by rw [h.1],h.2⟩
 | halt x w'=>simp [Result.andThen] at h
def Ts (w:World) (a:Option Addr) (l:List A):Prop :=
 l=[]∨∃ g o,a=some ⟨g,o,none⟩∧g < w.heap.size∧∀ i (h:i < l.length),C3 w g (o + i * 3) l[i]
theorem Ts.below {w w':World} {a:Option Addr} {l:List A} (h:Ts w a l) (g:Below w.heap.size w w'):Ts w' a l:=by
 rcases h with h | ⟨b,o,ha,hb,hc⟩
 ·exact .inl h
 ·exact .inr ⟨b,o,ha,Nat.lt_of_lt_of_le hb g.size,fun i hi=>(hc i hi).below hb g⟩
theorem Ts.take {w:World} {a:Option Addr} {l:List A} (h:Ts w a l) (k:Nat):Ts w a (l.take k):=by
 rcases h with rfl | ⟨b,o,ha,hb,hc⟩
 ·exact .inl (by simp)
 ·exact .inr ⟨b,o,ha,hb,fun i hi=>by
   have hi':i < l.length:=by rw [List.length_take] at hi;omega
   rw [List.getElem_take]
   exact hc i hi'⟩
theorem Ts.at {w:World} {a:Option Addr} {l:List A} (h:Ts w a l) {k:Nat} (hk:k < l.length):∃ g o,a=some ⟨g,o,none⟩∧g < w.heap.size∧∀ i (h:i < l.length),C3 w g (o + i * 3) l[i]:=by
 rcases h with rfl | h
 ·cases hk
 ·exact h
theorem Ts.alloc {w:World} {a:Option Addr} {l:List A} (h:Ts w a l) (o:Obj):Ts (w.alloc o) a l:=h.below (by go_grown)
theorem take_snoc_get (l:List A) (k:Nat) (h:k < l.length):l.take (k + 1)=l.take k ++ [l[k]]:=List.take_succ_eq_append_getElem h
structure GrS (W:World) where
 w:World
 h:Below W.heap.size W w
abbrev GrT (W:World):Type:=Option (GrS W)
def GrT.w {W:World}:GrT W→World
 | none=>W
 | some g=>g.w
theorem GrT.h {W:World}:(n:GrT W)→Below W.heap.size W n.w
 | none=>Below.refl _ _
 | some g=>g.h
theorem gr_elim {W w':World} (h:∃ n:GrT W,w'=n.w):Below W.heap.size W w':=by
 obtain ⟨n,rfl⟩:=h
 exact n.h
theorem wp_region_grow {P:Program} {id:Nat} {Q:Exit→Act→World→Prop} {a:Act} {w:World} {l:List Oper} (hm:P.follows .mixedOrders=true) (hB:Region.lexB .any l.toArray=true)
    (h:wpQuiet P l.toArray (fun w'=>∃ n:GrT w,w'=n.w) (fun a'=>∀ w',(∃ n:GrT w,w'=n.w)→Q .normal a' w') l a):(Code.region id l.toArray true).wp P Q a w :=
  wp_region_quiet (C:=fun w'=>∃ n:GrT w,w'=n.w) hm hB ⟨some ⟨_,(Below.refl _ w).drew⟩,rfl⟩ (by simpa using h)
theorem btr {a b c:World} {k:Nat} (h:Below k a b) (g:Below b.heap.size b c) (hk:k≤a.heap.size):Below k a c:=h.trans (g.mono (Nat.le_trans hk h.size))
theorem quiet_gr {P:Program} {f:FuncId} {args:Array Value} {W:World} {n:GrT W} {v:Value}
    (h:Calls P f args n.w fun e w'=>e=.returned v∧Below n.w.heap.size n.w w'):Calls P f args n.w fun e w''=>e=.returned v∧∃ m:GrT W,w''=m.w :=
  h.mono fun _ w' ⟨he,hm⟩=>⟨he,some ⟨w',btr n.h hm (Nat.le_refl _)⟩,rfl⟩
theorem quiet_gs {P:Program} {f:FuncId} {args:Array Value} {W:World} {n:GrT W} {v:Value}
    (h:Calls P f args n.w fun e w'=>e=.returned v∧w'=n.w):Calls P f args n.w fun e w''=>e=.returned v∧∃ m:GrT W,w''=m.w :=
  h.mono fun _ _ ⟨he,hm⟩=>⟨he,n,hm⟩
theorem bdr {B:Nat} {a w:World} (h:Below B a w) (n:Nat):Below B a (w.drewN n):=h.trans ⟨rfl,rfl,rfl,Nat.le_refl _,fun _ _=>rfl⟩
theorem C3.gr {W:World} {b o:Nat} {t:A} (h:C3 W b o t) (hb:b < W.heap.size) (n:GrT W):C3 n.w b o t:=h.below hb n.h
theorem Ts.gr {W:World} {a:Option Addr} {l:List A} (h:Ts W a l) (n:GrT W):Ts n.w a l:=h.below n.h
theorem loadT (w:World) (b:Nat) (t:A) (h:C3 w b 0 t):(loadVar 106 ⟨b,0,none⟩).run Tryz.prog w=.ok (tV t) w:=by
 obtain ⟨h0,h1,h2⟩:=h
 simp [go_sem, *]
theorem resT {fn:Func} {k:Tmp} (h:fn.results=#[.cell k 106]) {tmps:Array Value} {w:World} {b:Nat} {t:A} (ht:tmps.getD k undef=.pointer (some ⟨b,0,none⟩)) (hs:C3 w b 0 t) :
    (results fn tmps).run Tryz.prog w=.ok (tV t) w:=by
  have ht':tmps[k]?.getD undef=.pointer (some ⟨b,0,none⟩):=by simpa using ht
  simp [results,h,ht',asAddr,loadT w b t hs]
theorem ret_bool {a b:Bool} (h:a=b):Ending.returned (.bool a)=Ending.returned (.bool b):=by rw [h]
theorem ret_int {k:IntKind} {a b:Int} (h:a=b):Ending.returned (.int k a)=Ending.returned (.int k b):=by rw [h]
theorem cls9 {f:Int} (h : ¬ (f < 1∨9 < f)):f=1∨f=2∨f=3∨f=4∨f=5∨f=6∨f=7∨f=8∨f=9:=by omega
def wdV (f:Int):Int:=if f=2 then 64 else if f=1∨f=5∨f=6 then 32 else if f=4∨f=8∨f=9 then 16 else if f=3 then 13 else if f=7 then 8 else 0
def grV (f:Int):Int:=if f=2 then 18446744073709551615 else if f=1∨f=5∨f=6 then 4294967295 else if f=4∨f=8∨f=9 then 65535 else if f=3 then 8191 else if f=7 then 255 else 0
theorem none_of {f:Int} (h:f < 1∨9 < f):(f == 1)=false∧(f == 2)=false∧(f == 3)=false∧(f == 4)=false∧(f == 5)=false∧(f == 6)=false∧(f == 7)=false∧(f == 8)=false∧(f == 9)=false:=by
 refine ⟨?_,?_,?_,?_,?_,?_,?_,?_,?_⟩ <;> (rw [beq_eq_false_iff_ne];omega)
theorem wdV_none {f:Int} (h:f < 1∨9 < f):wdV f=0:=by unfold wdV;repeat (rw [if_neg (by omega)])
theorem grV_none {f:Int} (h:f < 1∨9 < f):grV f=0:=by unfold grV;repeat (rw [if_neg (by omega)])
theorem grV_lt (f:Int):0≤grV f∧grV f < 18446744073709551616:=by unfold grV;(repeat' split) <;> omega
theorem and_gr (f a:Int) (hf : ¬ (f < 1∨9 < f)) (h0:0≤a) (h1:a < 18446744073709551616):bits .and .u64 a (grV f)=a % (grV f + 1):=by
 rcases cls9 hf with rfl | rfl | rfl | rfl | rfl | rfl | rfl | rfl | rfl
 ·exact and_u 32 (by decide) a h0 h1
 ·exact and_u 64 (by decide) a h0 h1
 ·exact and_u 13 (by decide) a h0 h1
 ·exact and_u 16 (by decide) a h0 h1
 ·exact and_u 32 (by decide) a h0 h1
 ·exact and_u 32 (by decide) a h0 h1
 ·exact and_u 8 (by decide) a h0 h1
 ·exact and_u 16 (by decide) a h0 h1
 ·exact and_u 16 (by decide) a h0 h1
theorem and_gr_iff (f a:Int) (hf : ¬ (f < 1∨9 < f)) (h0:0≤a) (h1:a < 18446744073709551616):bits .and .u64 a (grV f)=a↔a≤grV f:=by
 have:=(grV_lt f).1
 rw [and_gr f a hf h0 h1]
 constructor
 ·intro h
  have:=Int.emod_lt_of_pos a (show 0 < grV f + 1 by omega)
  omega
 ·intro h
  exact Int.emod_eq_of_lt h0 (by omega)
def szV (f:Int):Nat:=if f=2 then 8 else if f=1∨f=5∨f=6 then 4 else if f=4∨f=8∨f=9∨f=3 then 2 else if f=7 then 1 else 0
theorem szV_eq (f:Int):(wdV f + 7) / 8=(szV f:Int):=by
 by_cases h:f < 1∨9 < f
 ·rw [wdV_none h];unfold szV;repeat (rw [if_neg (by omega)])
  rfl
 ·rcases cls9 h with rfl | rfl | rfl | rfl | rfl | rfl | rfl | rfl | rfl <;> rfl
theorem szV_le (f:Int):szV f≤8:=by unfold szV;(repeat' split) <;> omega
theorem gr_pow {f:Int} (h : ¬ (f < 1∨9 < f)):grV f < 256 ^ szV f:=by
 rcases cls9 h with rfl | rfl | rfl | rfl | rfl | rfl | rfl | rfl | rfl <;> decide
def zeros (n:Nat):ByteArray:=⟨(List.replicate n (0:UInt8)).toArray⟩
theorem zeros_size (n:Nat):(zeros n).size=n:=by simp [zeros,ByteArray.size]
def codeV (f:Int):Int:=if f=3 then 6 else if f=5 then 11 else if f=6 then 12 else if f=8 then 13 else if f=9 then 14 else 0
def leastV (f:Int):Int:=if f=3 then 4096 else 0
def rightB (a:A):Bool :=
 if a.1=1∨a.1=2 then a.2.1 == 0 && (decide (1≤a.2.2) && decide (a.2.2≤4294967295))
 else if a.1=3∨a.1=4 then a.2.1 == 0 && a.2.2 == 0
 else if a.1=5 then !(codeV a.2.1 == 0) && (decide (leastV a.2.1≤a.2.2) && decide (a.2.2≤grV a.2.1)) else false
def knV (k:Int):Int:=if k=1 then 0 else if k=2 then 22 else if k=3 then 17 else if k=4 then 18 else 25
def ksV (k:Int):Nat:=if k=1∨k=5 then 16 else 8
def bodyV (a:A):ByteArray :=
 if a.1=1 then pb a.2.2 4 ++ pb 65535 2 else if a.1=2 then pb a.2.2 4 else if a.1=3 then pb 33024 2
 else if a.1=5 then pb 32768 2 ++ pb (2 * codeV a.2.1) 1 ++ pb (szV a.2.1:Int) 1 ++ pb a.2.2 (szV a.2.1) else ⟨#[]⟩
def writeV (a:A):ByteArray:=pb (knV a.1) 2 ++ pb (ksV a.1:Int) 2 ++ bodyV a ++ zeros (ksV a.1 - 4 - (bodyV a).size)
theorem right_cases {a:A} (h:rightB a=true):(a.1=1∧a.2.1=0∧1≤a.2.2∧a.2.2≤4294967295)∨(a.1=2∧a.2.1=0∧1≤a.2.2∧a.2.2≤4294967295)∨(a.1=3∧a.2.1=0∧a.2.2=0)∨(a.1=4∧a.2.1=0∧a.2.2=0) ∨
    (a.1=5∧(a.2.1=3∨a.2.1=5∨a.2.1=6∨a.2.1=8∨a.2.1=9)∧leastV a.2.1≤a.2.2∧a.2.2≤grV a.2.1):=by
  unfold rightB at h
  split at h
  · next hk =>
    simp only [Bool.and_eq_true,beq_iff_eq,decide_eq_true_eq] at h
    omega
  · split at h
    · next hk =>
      simp only [Bool.and_eq_true,beq_iff_eq] at h
      omega
    · split at h
      · next hk =>
        simp only [Bool.and_eq_true,Bool.not_eq_true',beq_eq_false_iff_ne,decide_eq_true_eq] at h
        obtain ⟨h1,h2,h3⟩:=h
        refine .inr (.inr (.inr (.inr ⟨hk,?_,h2,h3⟩)))
        unfold codeV at h1
        revert h1
        (repeat' split) <;> omega
      · cases h
theorem encS_len1 (a:A) (h:rightB a=true):(writeV a).size=ksV a.1:=by
 have p:=pb_size
 unfold writeV bodyV
 rcases right_cases h with ⟨h1,h2,h3,h4⟩ | ⟨h1,h2,h3,h4⟩ | ⟨h1,h2,h3⟩ | ⟨h1,h2,h3⟩ | ⟨h1,h2,h3,h4⟩
 ·simp [h1,ByteArray.size_append,p,zeros_size,ksV]
 ·simp [h1,ByteArray.size_append,p,zeros_size,ksV]
 ·simp [h1,ByteArray.size_append,p,zeros_size,ksV]
 ·have e0:(⟨#[]⟩:ByteArray).size=0:=rfl
  simp [h1,ByteArray.size_append,p,zeros_size,ksV,e0]
 ·have:=szV_le a.2.1
  simp [h1,ByteArray.size_append,p,zeros_size,ksV]
  omega
def encL (l:List A):ByteArray:=l.foldr (fun a s=>writeV a ++ s) ⟨#[]⟩
def allB (l:List A):Bool:=l.all rightB
def encodeE (l:List A):Int:=if allB l=true then (if l.length≤32 then 0 else 44) else 22
def encodeS (l:List A):ByteArray:=if encodeE l=0 then encL l else ⟨#[]⟩
theorem kind_cases (k:Int):k=1∨k=2∨k=3∨k=4∨k=5∨((k == 1)=false∧(k == 2)=false∧(k == 3)=false∧(k == 4)=false∧(k == 5)=false):=by
 by_cases h1:k=1
 ·exact .inl h1
 by_cases h2:k=2
 ·exact .inr (.inl h2)
 by_cases h3:k=3
 ·exact .inr (.inr (.inl h3))
 by_cases h4:k=4
 ·exact .inr (.inr (.inr (.inl h4)))
 by_cases h5:k=5
 ·exact .inr (.inr (.inr (.inr (.inl h5))))
 exact .inr (.inr (.inr (.inr (.inr ⟨by simpa using h1,by simpa using h2,by simpa using h3,by simpa using h4,by simpa using h5⟩))))
abbrev kindsA:Array Value:=#[.int .i64 1,.int .i64 0,.int .i64 16,.int .i64 2,.int .i64 22,.int .i64 8,.int .i64 3,.int .i64 17,.int .i64 8,.int .i64 4,.int .i64 18,.int .i64 8,.int .i64 5,.int .i64 25,.int .i64 16]
abbrev codesA:Array Value:=#[.int .i64 3,.int .i64 6,.int .i64 5,.int .i64 11,.int .i64 6,.int .i64 12,.int .i64 8,.int .i64 13,.int .i64 9,.int .i64 14]
abbrev orderA:Array Value:=#[.int .i64 6,.int .i64 4,.int .i64 5,.int .i64 3,.int .i64 2,.int .i64 1]
structure Cd (w:World):Prop where
 kinds:∃ t fr,w.heap[1]? = some (.cells kindsA t fr)
 codes:∃ t fr,w.heap[4]? = some (.cells codesA t fr)
 order:∃ t fr,w.heap[0]? = some (.cells orderA t fr)
theorem Cd.pos {w:World} (h:Cd w):4 < w.heap.size:=by
 obtain ⟨t,fr,h⟩:=h.codes
 by_cases hz:4 < w.heap.size
 ·exact hz
 ·rw [Array.getElem?_eq_none (by omega)] at h;cases h
theorem Cd.below {w w':World} (h:Cd w) (g:Below w.heap.size w w'):Cd w':=by
 have hp:=h.pos
 have hb0:=g.block 1 (by omega)
 have hb1:=g.block 4 (by omega)
 have hb2:=g.block 0 (by omega)
 obtain ⟨⟨t,fr,h0⟩,⟨t1,fr1,h1⟩,⟨t2,fr2,h2⟩⟩:=h
 exact ⟨⟨t,fr,hb0.trans h0⟩,⟨t1,fr1,hb1.trans h1⟩,⟨t2,fr2,hb2.trans h2⟩⟩
theorem Cd.alloc {w:World} (h:Cd w) (o:Obj):Cd (w.alloc o):=h.below (by go_grown)
theorem idxK (cs:List Value) (i:Int) (h0:0≤i) (h1:i < 5) (w:World):(Instr.index 175 (.agg cs.toArray) (.int .i64 i)).run Tryz.prog w=.ok (.agg ((cs.drop (i.toNat * 3)).take 3).toArray) w:=by
 have hn:0≤i∧i < ((5:Nat):Int):=by omega
 have hu:Tryz.prog.underlying 175=some (.array 5 174):=Tryz.underlying175
 have e:cs.toArray.extract (i.toNat * 3) (i.toNat * 3 + 3)=((cs.drop (i.toNat * 3)).take 3).toArray:=by
  apply Array.toList_inj.1
  simp [List.extract_eq_take_drop]
 rw [← e]
 clear e
 simp [Instr.index,run_underlying hu,asIntOf,hn,go_sem]
 intro h
 omega
theorem idxC (cs:List Value) (i:Int) (h0:0≤i) (h1:i < 5) (w:World):(Instr.index 186 (.agg cs.toArray) (.int .i64 i)).run Tryz.prog w=.ok (.agg ((cs.drop (i.toNat * 2)).take 2).toArray) w:=by
 have hn:0≤i∧i < ((5:Nat):Int):=by omega
 have hu:Tryz.prog.underlying 186=some (.array 5 185):=Tryz.underlying186
 have e:cs.toArray.extract (i.toNat * 2) (i.toNat * 2 + 2)=((cs.drop (i.toNat * 2)).take 2).toArray:=by
  apply Array.toList_inj.1
  simp [List.extract_eq_take_drop]
 rw [← e]
 clear e
 simp [Instr.index,run_underlying hu,asIntOf,hn,go_sem]
 intro h
 omega
theorem idk0 (w:World):(Instr.index 175 (.agg kindsA) (.int .i64 0)).run Tryz.prog w=.ok (.agg #[.int .i64 1,.int .i64 0,.int .i64 16]) w:=idxK _ 0 (by omega) (by omega) w
theorem idk1 (w:World):(Instr.index 175 (.agg kindsA) (.int .i64 1)).run Tryz.prog w=.ok (.agg #[.int .i64 2,.int .i64 22,.int .i64 8]) w:=idxK _ 1 (by omega) (by omega) w
theorem idk2 (w:World):(Instr.index 175 (.agg kindsA) (.int .i64 2)).run Tryz.prog w=.ok (.agg #[.int .i64 3,.int .i64 17,.int .i64 8]) w:=idxK _ 2 (by omega) (by omega) w
theorem idk3 (w:World):(Instr.index 175 (.agg kindsA) (.int .i64 3)).run Tryz.prog w=.ok (.agg #[.int .i64 4,.int .i64 18,.int .i64 8]) w:=idxK _ 3 (by omega) (by omega) w
theorem idk4 (w:World):(Instr.index 175 (.agg kindsA) (.int .i64 4)).run Tryz.prog w=.ok (.agg #[.int .i64 5,.int .i64 25,.int .i64 16]) w:=idxK _ 4 (by omega) (by omega) w
theorem idc0 (w:World):(Instr.index 186 (.agg codesA) (.int .i64 0)).run Tryz.prog w=.ok (.agg #[.int .i64 3,.int .i64 6]) w:=idxC _ 0 (by omega) (by omega) w
theorem idc1 (w:World):(Instr.index 186 (.agg codesA) (.int .i64 1)).run Tryz.prog w=.ok (.agg #[.int .i64 5,.int .i64 11]) w:=idxC _ 1 (by omega) (by omega) w
theorem idc2 (w:World):(Instr.index 186 (.agg codesA) (.int .i64 2)).run Tryz.prog w=.ok (.agg #[.int .i64 6,.int .i64 12]) w:=idxC _ 2 (by omega) (by omega) w
theorem idc3 (w:World):(Instr.index 186 (.agg codesA) (.int .i64 3)).run Tryz.prog w=.ok (.agg #[.int .i64 8,.int .i64 13]) w:=idxC _ 3 (by omega) (by omega) w
theorem idc4 (w:World):(Instr.index 186 (.agg codesA) (.int .i64 4)).run Tryz.prog w=.ok (.agg #[.int .i64 9,.int .i64 14]) w:=idxC _ 4 (by omega) (by omega) w
theorem code_cases (f:Int):f=3∨f=5∨f=6∨f=8∨f=9∨(((3:Int) == f)=false∧((5:Int) == f)=false∧((6:Int) == f)=false∧((8:Int) == f)=false∧((9:Int) == f)=false∧codeV f=0):=by
 by_cases h1:f=3
 ·exact .inl h1
 by_cases h2:f=5
 ·exact .inr (.inl h2)
 by_cases h3:f=6
 ·exact .inr (.inr (.inl h3))
 by_cases h4:f=8
 ·exact .inr (.inr (.inr (.inl h4)))
 by_cases h5:f=9
 ·exact .inr (.inr (.inr (.inr (.inl h5))))
 refine .inr (.inr (.inr (.inr (.inr ⟨?_,?_,?_,?_,?_,?_⟩))))
 ·simp;omega
 ·simp;omega
 ·simp;omega
 ·simp;omega
 ·simp;omega
 ·unfold codeV;simp [h1,h2,h3,h4,h5]
theorem codeOf_any (f:Int) (w:World) (hd:Cd w) :
    Calls Tryz.prog 158 #[.int .i64 f] w fun e w'=>e=.returned (.int .i64 (codeV f))∧Below w.heap.size w w':=by
  obtain ⟨ct,cfr,hd⟩:=hd.codes
  have x0:=idc0
  have x1:=idc1
  have x2:=idc2
  have x3:=idc3
  have x4:=idc4
  rcases code_cases f with rfl | rfl | rfl | rfl | rfl | ⟨b1,b2,b3,b4,b5,hc⟩
  case inr.inr.inr.inr.inr =>
    rw [hc]
    go_enter Tryz.func158,Tryz.ntmps158
    go_wp2_with (refine wpList_load_row rfl 186 (.global 4) rfl 4 rfl ct codesA cfr _ hd Tryz.underlying186 rfl (by kernel_rfl) ?_)
    clear hd
    go_rounds 6
    go_ret
    exact ⟨rfl,by go_grown⟩
  all_goals
    go_enter Tryz.func158,Tryz.ntmps158
    go_wp2_with (refine wpList_load_row rfl 186 (.global 4) rfl 4 rfl ct codesA cfr _ hd Tryz.underlying186 rfl (by kernel_rfl) ?_)
    clear hd
    go_rounds 6
    go_ret
    exact ⟨rfl,by go_grown⟩
theorem width_any (f:Int) (w:World):Calls Tryz.prog 143 #[.int .i64 f] w fun e w'=>e=.returned (.int .i64 (wdV f))∧w'=w:=by
 by_cases h:f < 1∨9 < f
 ·obtain ⟨b1,b2,b3,b4,b5,b6,b7,b8,b9⟩:=none_of h
  rw [wdV_none h]
  clear h
  go_enter Tryz.func143,Tryz.ntmps143
  go_wp2
  go_ret
  exact ⟨rfl,rfl⟩
 ·rcases cls9 h with rfl | rfl | rfl | rfl | rfl | rfl | rfl | rfl | rfl
  all_goals
   clear h
   go_enter Tryz.func143,Tryz.ntmps143
   go_wp2
   go_ret
   exact ⟨rfl,rfl⟩
theorem greatest_any (f:Int) (w:World):Calls Tryz.prog 156 #[.int .i64 f] w fun e w'=>e=.returned (.int .u64 (grV f))∧w'=w:=by
 by_cases h:f < 1∨9 < f
 ·have hw:=width_any f
  rw [wdV_none h] at hw
  rw [grV_none h]
  clear h
  go_enter Tryz.func156,Tryz.ntmps156
  go_wp2_with fail
  refine (hw _).mono ?_
  rintro x w1 ⟨rfl,rfl⟩
  go_wp2_with fail
  go_ret
  exact ⟨rfl,rfl⟩
 ·rcases cls9 h with rfl | rfl | rfl | rfl | rfl | rfl | rfl | rfl | rfl
  all_goals
   clear h
   go_enter Tryz.func156,Tryz.ntmps156
   go_wp2_with fail
   refine (width_any _ _).mono ?_
   rintro x w1 ⟨rfl,rfl⟩
   simp only [show wdV 1=32 from rfl,show wdV 2=64 from rfl,show wdV 3=13 from rfl,show wdV 4=16 from rfl,show wdV 5=32 from rfl,show wdV 6=32 from rfl,show wdV 7=8 from rfl,show wdV 8=16 from rfl,show wdV 9=16 from rfl]
   go_wp2_with fail
   go_ret
   exact ⟨rfl,rfl⟩
theorem least_any (f:Int) (w:World):Calls Tryz.prog 155 #[.int .i64 f] w fun e w'=>e=.returned (.int .u64 (leastV f))∧w'=w:=by
 unfold leastV
 by_cases h:f=3
 ·subst h
  go_enter Tryz.func155,Tryz.ntmps155
  go_wp2
  go_ret
  exact ⟨rfl,rfl⟩
 ·have hb:(f == 3)=false:=by simp [h]
  rw [if_neg h]
  clear h
  go_enter Tryz.func155,Tryz.ntmps155
  go_wp2
  go_ret
  exact ⟨rfl,rfl⟩
theorem maySet_any (f:Int) (w:World) (hd:Cd w):Calls Tryz.prog 154 #[.int .i64 f] w fun e w'=>e=.returned (.bool (!(codeV f == 0)))∧Below w.heap.size w w':=by
 have HC:Hid (Calls Tryz.prog 158 #[.int .i64 f] w fun e w'=>e=.returned (.int .i64 (codeV f))∧Below w.heap.size w w'):=codeOf_any f w hd
 generalize codeV f=c at *
 go_enter Tryz.func154,Tryz.ntmps154
 go_wp2_with fail
 refine HC.out.mono ?_
 rintro x w1 ⟨rfl,g1⟩
 go_wp2_with fail
 go_ret
 exact ⟨rfl,g1⟩
theorem C3.gr1 (w:World) (t:A) (n:GrT (tx w t)):C3 n.w w.heap.size 0 t:=C3.gr (C3.new w t) (by simp) n
theorem right_five (f v:Int) (w:World) (hd:Cd w) :
    Calls Tryz.prog 140 #[tV (5,f,v)] w fun e w'=>e=.returned (.bool (rightB (5,f,v)))∧Below w.heap.size w w':=by
  have HM:Hid (∀ w,Cd w→Calls Tryz.prog 154 #[.int .i64 f] w fun e w'=>e=.returned (.bool (!(codeV f == 0)))∧Below w.heap.size w w'):=(show ∀ w,_ from fun w h=>maySet_any f w h)
  have HL:Hid (∀ w,Calls Tryz.prog 155 #[.int .i64 f] w fun e w'=>e=.returned (.int .u64 (leastV f))∧w'=w):=(show ∀ w,_ from fun w=>least_any f w)
  have HG:Hid (∀ w,Calls Tryz.prog 156 #[.int .i64 f] w fun e w'=>e=.returned (.int .u64 (grV f))∧w'=w):=(show ∀ w,_ from fun w=>greatest_any f w)
  have HD:Hid (∀ n:GrT (tx w (5,f,v)),Cd n.w):=(show ∀ n:GrT (tx w (5,f,v)),Cd n.w from fun n=>(hd.alloc _).below n.h)
  have q:=C3.gr1 w (5,f,v)
  have q0:=fun n=>(q n).1
  have q1:=fun n=>(q n).2.1
  have q2:=fun n=>(q n).2.2
  have hR:rightB (5,f,v)=(!(codeV f == 0) && (decide (leastV f≤v) && decide (v≤grV f))):=by simp [rightB]
  rw [hR]
  clear q hd hR
  generalize grV f=G at *
  generalize leastV f=L at *
  cases hc:(codeV f == 0) with
  | true =>
    rw [hc] at HM
    simp only [Bool.not_true,Bool.false_and] at HM ⊢
    go_enter Tryz.func140,Tryz.ntmps140
    go_wp2_with fail
    refine wp_region_grow (by kernel_rfl) (by kernel_rfl) ?_
    repeat (go_big_quiet_step ((first | (go_at_call 154;exact quiet_gr (HM.out _ (HD.out _))) | (go_at_call 155;exact quiet_gs (HL.out _)) | (go_at_call 156;exact quiet_gs (HG.out _)))))
    refine wpQuiet_nil ?_
    rintro w1 hw'
    have g1:=gr_elim hw'
    clear q0 q1 q2 hw'
    go_wp2_with fail
    go_ret
    exact ⟨rfl,btr (by go_grown) g1 (by simp)⟩
  | false =>
    rw [hc] at HM
    simp only [Bool.not_false,Bool.true_and] at HM ⊢
    by_cases h1:L≤v
    · have d1:decide (L≤v)=true:=decide_eq_true h1
      rw [d1,Bool.true_and]
      go_enter Tryz.func140,Tryz.ntmps140
      go_wp2_with fail
      refine wp_region_grow (by kernel_rfl) (by kernel_rfl) ?_
      repeat (go_big_quiet_step ((first | (go_at_call 154;exact quiet_gr (HM.out _ (HD.out _))) | (go_at_call 155;exact quiet_gs (HL.out _)) | (go_at_call 156;exact quiet_gs (HG.out _)))))
      refine wpQuiet_nil ?_
      rintro w1 hw'
      have g1:=gr_elim hw'
      clear q0 q1 q2 hw'
      go_wp2_with fail
      go_ret
      exact ⟨rfl,btr (by go_grown) g1 (by simp)⟩
    · have d1:decide (L≤v)=false:=decide_eq_false h1
      rw [d1,Bool.false_and]
      go_enter Tryz.func140,Tryz.ntmps140
      go_wp2_with fail
      refine wp_region_grow (by kernel_rfl) (by kernel_rfl) ?_
      repeat (go_big_quiet_step ((first | (go_at_call 154;exact quiet_gr (HM.out _ (HD.out _))) | (go_at_call 155;exact quiet_gs (HL.out _)) | (go_at_call 156;exact quiet_gs (HG.out _)))))
      refine wpQuiet_nil ?_
      rintro w1 hw'
      have g1:=gr_elim hw'
      clear q0 q1 q2 hw'
      go_wp2_with fail
      go_ret
      exact ⟨rfl,btr (by go_grown) g1 (by simp)⟩
theorem right_any (a:A) (w:World) (hd:Cd w) :
    Calls Tryz.prog 140 #[tV a] w fun e w'=>e=.returned (.bool (rightB a))∧Below w.heap.size w w':=by
  obtain ⟨k,f,v⟩:=a
  rcases kind_cases k with rfl | rfl | rfl | rfl | rfl | ⟨b1,b2,b3,b4,b5⟩
  · clear hd
    have hR:rightB (1,f,v)=(f == 0 && (decide (1≤v) && decide (v≤4294967295))):=by simp [rightB]
    rw [hR]
    clear hR
    cases hf:(f == 0)
    · go_enter Tryz.func140,Tryz.ntmps140
      go_wp2
      go_ret
      exact ⟨rfl,by go_grown⟩
    · cases d1:decide (1≤v)
      · go_enter Tryz.func140,Tryz.ntmps140
        go_wp2
        go_ret
        exact ⟨rfl,by go_grown⟩
      · cases d2:decide (v≤4294967295) <;>
        · go_enter Tryz.func140,Tryz.ntmps140
          go_wp2
          go_ret
          exact ⟨rfl,by go_grown⟩
  · clear hd
    have hR:rightB (2,f,v)=(f == 0 && (decide (1≤v) && decide (v≤4294967295))):=by simp [rightB]
    rw [hR]
    clear hR
    cases hf:(f == 0)
    · go_enter Tryz.func140,Tryz.ntmps140
      go_wp2
      go_ret
      exact ⟨rfl,by go_grown⟩
    · cases d1:decide (1≤v)
      · go_enter Tryz.func140,Tryz.ntmps140
        go_wp2
        go_ret
        exact ⟨rfl,by go_grown⟩
      · cases d2:decide (v≤4294967295) <;>
        · go_enter Tryz.func140,Tryz.ntmps140
          go_wp2
          go_ret
          exact ⟨rfl,by go_grown⟩
  · clear hd
    have hR:rightB (3,f,v)=(f == 0 && v == 0):=by simp [rightB]
    rw [hR]
    clear hR
    cases hf:(f == 0) <;> cases hv:(v == 0) <;>
    · go_enter Tryz.func140,Tryz.ntmps140
      go_wp2
      go_ret
      exact ⟨rfl,by go_grown⟩
  · clear hd
    have hR:rightB (4,f,v)=(f == 0 && v == 0):=by simp [rightB]
    rw [hR]
    clear hR
    cases hf:(f == 0) <;> cases hv:(v == 0) <;>
    · go_enter Tryz.func140,Tryz.ntmps140
      go_wp2
      go_ret
      exact ⟨rfl,by go_grown⟩
  · exact right_five f v w hd
  · clear hd
    have hR:rightB (k,f,v)=false:=by
      simp at b1 b2 b3 b4 b5
      simp [rightB,b1,b2,b3,b4,b5]
    rw [hR]
    clear hR
    go_enter Tryz.func140,Tryz.ntmps140
    go_wp2
    go_ret
    exact ⟨rfl,by go_grown⟩
theorem infoB:(Tryz.prog.info? 5).map (fun i=>(i.zero,i.size,i.bytes))=some (some (.int .u8 0),1,1):=by kernel_rfl
theorem mkAny (k:Nat) (w:World) (hk:k≤8):(Instr.makeSlice 114 (.int .i64 k) (.int .i64 k)).run Tryz.prog w=.ok (.slice (some ⟨w.heap.size,0,none⟩) k k) (w.alloc (.cells (List.replicate k (.int .u8 0)).toArray 5)):=by
 obtain ⟨i0,hi,hz0,hz1,hz2⟩:=info_parts infoB
 rw [run_make w 114 5 i0 _ Tryz.underlying114 hi hz0 .i64 .i64 k k (by omega) (by omega) (by rw [hz2];omega) (by omega),hz1]
 have e:madeCells (Value.int .u8 0).cells (Int.toNat (k:Int) * 1)=(List.replicate k (Value.int .u8 0)).toArray:=by
  apply Array.ext <;> simp [madeCells,Value.cells,Nat.mod_one]
 rw [e,Int.toNat_natCast]
theorem cvAny (k:Nat) (xs:List Int) (h:xs.length=k) (w:World) :
    (convert 114 9 (.slice (some ⟨w.heap.size,0,none⟩) k k)).run Tryz.prog (w.alloc (.cells (xs.map (Value.int .u8)).toArray 5))=.ok (.string (strOfNums xs)) (w.alloc (.cells (xs.map (Value.int .u8)).toArray 5)):=by
  refine run_convert_bytes_arg _ 114 5 Tryz.underlying114 Tryz.underlying5 w.heap.size 0 k k xs h (fun i hi => ?_) 9 Tryz.underlying9
  have hi':i < xs.length:=by omega
  simp [List.getElem?_eq_getElem hi']
theorem isSize_any (n:Int) (w:World) :
    Calls Tryz.prog 75 #[.int .i64 n] w fun e w'=>e=.returned (.bool (szB n))∧w'=w:=by
  unfold szB
  by_cases h1:1≤n <;> by_cases h2:n≤8 <;>
  · go_enter Tryz.func75,Tryz.ntmps75
    go_wp2
    go_ret
    simp [h1,h2]
theorem mk1 (w:World):(Instr.makeSlice 114 (.int .i64 1) (.int .i64 1)).run Tryz.prog w=.ok (.slice (some ⟨w.heap.size,0,none⟩) 1 1) (w.alloc (.cells #[.int .u8 0] 5)):=mkAny 1 w (by omega)
theorem cv1 (a:Int) (w:World):(convert 114 9 (.slice (some ⟨w.heap.size,0,none⟩) 1 1)).run Tryz.prog (w.alloc (.cells #[.int .u8 a] 5))=.ok (.string (strOfNums [a])) (w.alloc (.cells #[.int .u8 a] 5)):=cvAny 1 [a] rfl w
theorem p1 (n:Int) (h0:0≤n) (h1:n < 256):[n]=pieces n 1:=by simp [pieces];omega
theorem put_1 (n:Int) (w:World) (h0:0≤n) (h1:n < 256) :
    Calls Tryz.prog 38 #[.int .u64 n,.int .i64 1] w fun e w'=>e=.returned (.tuple #[.string (strOfNums (pieces n 1)),.int .i64 0])∧Below w.heap.size w w':=by
  have hm:=mk1
  have hc:=cv1
  have hn:(n / 256 != 0)=false:=by rw [Int.ediv_eq_zero_of_lt h0 h1];rfl
  go_enter Tryz.func38,Tryz.ntmps38
  go_wp2
  go_rounds 2
  go_ret2
  rw [← p1 n h0 h1]
  exact ⟨rfl,by go_grown⟩
theorem mput1 (n:Int) (w:World) (h0:0≤n) (h1:n < 256):Calls Tryz.prog 141 #[.int .u64 n,.int .i64 1] w fun e w'=>e=.returned (.string (pb n 1))∧Below w.heap.size w w':=by
 go_enter Tryz.func141,Tryz.ntmps141
 go_wp2_with fail
 refine (put_1 n _ h0 h1).mono ?_
 rintro x w1 ⟨rfl,g⟩
 go_wp2_with fail
 go_ret
 exact ⟨rfl,g⟩
theorem mk2 (w:World):(Instr.makeSlice 114 (.int .i64 2) (.int .i64 2)).run Tryz.prog w=.ok (.slice (some ⟨w.heap.size,0,none⟩) 2 2) (w.alloc (.cells #[.int .u8 0,.int .u8 0] 5)):=mkAny 2 w (by omega)
theorem cv2 (a b:Int) (w:World):(convert 114 9 (.slice (some ⟨w.heap.size,0,none⟩) 2 2)).run Tryz.prog (w.alloc (.cells #[.int .u8 a,.int .u8 b] 5))=.ok (.string (strOfNums [a,b])) (w.alloc (.cells #[.int .u8 a,.int .u8 b] 5)):=cvAny 2 [a,b] rfl w
theorem p2 (n:Int) (h0:0≤n) (h1:n < 65536):[n / 256,n % 256]=pieces n 2:=by simp [pieces];omega
theorem put_2 (n:Int) (w:World) (h0:0≤n) (h1:n < 65536) :
    Calls Tryz.prog 38 #[.int .u64 n,.int .i64 2] w fun e w'=>e=.returned (.tuple #[.string (strOfNums (pieces n 2)),.int .i64 0])∧Below w.heap.size w w':=by
  have hm:=mk2
  have hc:=cv2
  have hn:(n / 65536 != 0)=false:=by rw [Int.ediv_eq_zero_of_lt h0 h1];rfl
  go_enter Tryz.func38,Tryz.ntmps38
  go_wp2
  go_rounds 3
  go_ret2
  rw [← p2 n h0 h1]
  exact ⟨rfl,by go_grown⟩
theorem mput2 (n:Int) (w:World) (h0:0≤n) (h1:n < 65536):Calls Tryz.prog 141 #[.int .u64 n,.int .i64 2] w fun e w'=>e=.returned (.string (pb n 2))∧Below w.heap.size w w':=by
 go_enter Tryz.func141,Tryz.ntmps141
 go_wp2_with fail
 refine (put_2 n _ h0 h1).mono ?_
 rintro x w1 ⟨rfl,g⟩
 go_wp2_with fail
 go_ret
 exact ⟨rfl,g⟩
theorem mk4 (w:World):(Instr.makeSlice 114 (.int .i64 4) (.int .i64 4)).run Tryz.prog w=.ok (.slice (some ⟨w.heap.size,0,none⟩) 4 4) (w.alloc (.cells #[.int .u8 0,.int .u8 0,.int .u8 0,.int .u8 0] 5)):=mkAny 4 w (by omega)
theorem cv4 (a b c d:Int) (w:World):(convert 114 9 (.slice (some ⟨w.heap.size,0,none⟩) 4 4)).run Tryz.prog (w.alloc (.cells #[.int .u8 a,.int .u8 b,.int .u8 c,.int .u8 d] 5))=.ok (.string (strOfNums [a,b,c,d])) (w.alloc (.cells #[.int .u8 a,.int .u8 b,.int .u8 c,.int .u8 d] 5)):=cvAny 4 [a,b,c,d] rfl w
theorem p4 (n:Int) (h0:0≤n) (h1:n < 4294967296):[n / 16777216,n / 65536 % 256,n / 256 % 256,n % 256]=pieces n 4:=by simp [pieces];omega
theorem put_4 (n:Int) (w:World) (h0:0≤n) (h1:n < 4294967296) :
    Calls Tryz.prog 38 #[.int .u64 n,.int .i64 4] w fun e w'=>e=.returned (.tuple #[.string (strOfNums (pieces n 4)),.int .i64 0])∧Below w.heap.size w w':=by
  have hm:=mk4
  have hc:=cv4
  have hn:(n / 4294967296 != 0)=false:=by rw [Int.ediv_eq_zero_of_lt h0 h1];rfl
  go_enter Tryz.func38,Tryz.ntmps38
  go_wp2
  go_rounds 5
  go_ret2
  rw [← p4 n h0 h1]
  exact ⟨rfl,by go_grown⟩
theorem mput4 (n:Int) (w:World) (h0:0≤n) (h1:n < 4294967296):Calls Tryz.prog 141 #[.int .u64 n,.int .i64 4] w fun e w'=>e=.returned (.string (pb n 4))∧Below w.heap.size w w':=by
 go_enter Tryz.func141,Tryz.ntmps141
 go_wp2_with fail
 refine (put_4 n _ h0 h1).mono ?_
 rintro x w1 ⟨rfl,g⟩
 go_wp2_with fail
 go_ret
 exact ⟨rfl,g⟩
theorem mk8 (w:World):(Instr.makeSlice 114 (.int .i64 8) (.int .i64 8)).run Tryz.prog w=.ok (.slice (some ⟨w.heap.size,0,none⟩) 8 8) (w.alloc (.cells #[.int .u8 0,.int .u8 0,.int .u8 0,.int .u8 0,.int .u8 0,.int .u8 0,.int .u8 0,.int .u8 0] 5)):=mkAny 8 w (by omega)
theorem cv8 (a b c d e f g h:Int) (w:World):(convert 114 9 (.slice (some ⟨w.heap.size,0,none⟩) 8 8)).run Tryz.prog (w.alloc (.cells #[.int .u8 a,.int .u8 b,.int .u8 c,.int .u8 d,.int .u8 e,.int .u8 f,.int .u8 g,.int .u8 h] 5))=.ok (.string (strOfNums [a,b,c,d,e,f,g,h])) (w.alloc (.cells #[.int .u8 a,.int .u8 b,.int .u8 c,.int .u8 d,.int .u8 e,.int .u8 f,.int .u8 g,.int .u8 h] 5)):=cvAny 8 [a,b,c,d,e,f,g,h] rfl w
theorem p8 (n:Int) (h0:0≤n) (h1:n < 18446744073709551616):[n / 72057594037927936,n / 281474976710656 % 256,n / 1099511627776 % 256,n / 4294967296 % 256,n / 16777216 % 256,n / 65536 % 256,n / 256 % 256,n % 256]=pieces n 8:=by simp [pieces];omega
theorem put_8 (n:Int) (w:World) (h0:0≤n) (h1:n < 18446744073709551616) :
    Calls Tryz.prog 38 #[.int .u64 n,.int .i64 8] w fun e w'=>e=.returned (.tuple #[.string (strOfNums (pieces n 8)),.int .i64 0])∧Below w.heap.size w w':=by
  have hm:=mk8
  have hc:=cv8
  have hn:(n / 18446744073709551616 != 0)=false:=by rw [Int.ediv_eq_zero_of_lt h0 h1];rfl
  go_enter Tryz.func38,Tryz.ntmps38
  go_wp2
  go_rounds 9
  go_ret2
  rw [← p8 n h0 h1]
  exact ⟨rfl,by go_grown⟩
theorem mput8 (n:Int) (w:World) (h0:0≤n) (h1:n < 18446744073709551616):Calls Tryz.prog 141 #[.int .u64 n,.int .i64 8] w fun e w'=>e=.returned (.string (pb n 8))∧Below w.heap.size w w':=by
 go_enter Tryz.func141,Tryz.ntmps141
 go_wp2_with fail
 refine (put_8 n _ h0 h1).mono ?_
 rintro x w1 ⟨rfl,g⟩
 go_wp2_with fail
 go_ret
 exact ⟨rfl,g⟩
theorem mput_any (n:Int) (f:Int) (w:World) (hf : ¬ (f < 1∨9 < f)) (h0:0≤n) (h1:n≤grV f):Calls Tryz.prog 141 #[.int .u64 n,.int .i64 (szV f)] w fun e w'=>e=.returned (.string (pb n (szV f)))∧Below w.heap.size w w':=by
 have h2:=Int.lt_of_le_of_lt h1 (gr_pow hf)
 rcases cls9 hf with rfl | rfl | rfl | rfl | rfl | rfl | rfl | rfl | rfl
 ·exact mput4 n w h0 h2
 ·exact mput8 n w h0 h2
 ·exact mput2 n w h0 h2
 ·exact mput2 n w h0 h2
 ·exact mput4 n w h0 h2
 ·exact mput4 n w h0 h2
 ·exact mput1 n w h0 h2
 ·exact mput2 n w h0 h2
 ·exact mput2 n w h0 h2
theorem bytesOf_any (f:Int) (w:World):Calls Tryz.prog 157 #[.int .i64 f] w fun e w'=>e=.returned (.int .i64 (szV f))∧w'=w:=by
 have HW:Hid (∀ w,Calls Tryz.prog 143 #[.int .i64 f] w fun e w'=>e=.returned (.int .i64 (wdV f))∧w'=w):=fun w=>width_any f w
 have h:=szV_eq f
 have hb:0≤wdV f∧wdV f≤64:=by unfold wdV;(repeat' split) <;> omega
 rw [← h]
 clear h
 generalize wdV f=y at *
 obtain ⟨b0,b1⟩:=hb
 go_enter Tryz.func157,Tryz.ntmps157
 go_wp2_with fail
 refine (HW.out _).mono ?_
 rintro x w1 ⟨rfl,rfl⟩
 go_wp2_with fail
 go_ret
 exact ⟨ret_int (by first | rfl | omega),rfl⟩
theorem repeat_list:∀ c:Nat,Lib.repeatL [0] c=List.replicate c (0:UInt8)
 | 0=>rfl
 | c + 1=>by rw [Lib.repeatL,repeat_list c];rfl
theorem repeat_any (c:Nat) (w:World) (hc:c≤1000):Calls Tryz.prog 70 #[.string ⟨#[0]⟩,.int .i64 c] w fun e w'=>e=.returned (.string (zeros c))∧Below w.heap.size w w':=by
 have:=Tryz.strings_Repeat ⟨#[0]⟩ c w (by omega) (by show 1 * c≤_;omega)
 rw [show (⟨#[0]⟩:ByteArray).data.toList=[0] from rfl,repeat_list c] at this
 exact this
abbrev setB (c:Int) (n:Nat) (v:Int):ByteArray:=pb 32768 2 ++ pb (2 * c) 1 ++ pb (n:Int) 1 ++ pb v n
theorem body_set (f v:Int) (n:Nat) (c:Int) (w:World) (hd:Cd w) (hn:szV f=n) (hn4:n≤8) (hc:codeV f=c) (hc0:0≤c) (hc1:c≤14) (HP:Hid (∀ w,Calls Tryz.prog 141 #[.int .u64 v,.int .i64 n] w fun e w'=>e=.returned (.string (pb v n))∧Below w.heap.size w w')) :
    Calls Tryz.prog 142 #[tV (5,f,v)] w fun e w'=>e=.returned (.string (setB c n v))∧Below w.heap.size w w':=by
  have HC:Hid (∀ w,Cd w→Calls Tryz.prog 158 #[.int .i64 f] w fun e w'=>e=.returned (.int .i64 c)∧Below w.heap.size w w'):=(show ∀ w,_ from fun w h=>hc ▸ codeOf_any f w h)
  have HB:Hid (∀ w,Calls Tryz.prog 157 #[.int .i64 f] w fun e w'=>e=.returned (.int .i64 n)∧w'=w):=(show ∀ w,_ from fun w=>hn ▸ bytesOf_any f w)
  have H1:Hid (∀ n w,0≤n→n < 256→Calls Tryz.prog 141 #[.int .u64 n,.int .i64 1] w fun e w'=>e=.returned (.string (pb n 1))∧Below w.heap.size w w'):=(show ∀ n w,_ from fun n w h0 h1=>mput1 n w h0 h1)
  have H2:Hid (∀ w,Calls Tryz.prog 141 #[.int .u64 32768,.int .i64 2] w fun e w'=>e=.returned (.string (pb 32768 2))∧Below w.heap.size w w'):=(show ∀ w,_ from fun w=>mput2 32768 w (by omega) (by omega))
  have HD:Hid (∀ n:GrT (tx w (5,f,v)),Cd n.w):=(show ∀ n:GrT (tx w (5,f,v)),Cd n.w from fun n=>(hd.alloc _).below n.h)
  have q:=C3.gr1 w (5,f,v)
  have q0:=fun n=>(q n).1
  have q1:=fun n=>(q n).2.1
  have q2:=fun n=>(q n).2.2
  have hps:=pb_size
  have hw1:IntKind.u64.wrap (2 * c)=2 * c:=wraps_u64 _ (by omega) (by omega)
  have hw2:IntKind.u64.wrap (n:Int)=(n:Int):=wraps_u64 _ (by omega) (by omega)
  clear q hd hn hc
  go_enter Tryz.func142,Tryz.ntmps142
  go_wp2_with fail
  refine (HB.out _).mono ?_
  rintro x w1 ⟨rfl,rfl⟩
  go_wp2_with fail
  refine wp_region_grow (by kernel_rfl) (by kernel_rfl) ?_
  repeat (go_big_quiet_step ((first | (go_at_call 158;exact quiet_gr (HC.out _ (HD.out _))) | (go_at_call_of 141 (Value.int IntKind.i64 2);exact quiet_gr (H2.out _)) | (go_at_call_of 141 (Value.int IntKind.i64 1);exact quiet_gr (H1.out _ _ (by omega) (by omega))) | (go_at_call 141;exact quiet_gr (HP.out _)))))
  refine wpQuiet_nil ?_
  rintro w1 hw'
  have g1:=gr_elim hw'
  clear q0 q1 q2 hw'
  go_wp2_with fail
  go_ret
  exact ⟨rfl,btr (by go_grown) g1 (by simp)⟩
theorem write_1 (f v:Int) (B:ByteArray) (c:Nat) (w:World) (hd:Cd w) (hB:4 + B.size + c=16) (HB:Hid (∀ w,Cd w→Calls Tryz.prog 142 #[tV (1,f,v)] w fun e w'=>e=.returned (.string B)∧Below w.heap.size w w')) :
    Calls Tryz.prog 121 #[tV (1,f,v)] w fun e w'=>e=.returned (.string (pb 0 2 ++ pb 16 2 ++ B ++ zeros c))∧Below w.heap.size w w':=by
  have HN:Hid (∀ w,Calls Tryz.prog 141 #[.int .u64 0,.int .i64 2] w fun e w'=>e=.returned (.string (pb 0 2))∧Below w.heap.size w w'):=(show ∀ w,_ from fun w=>mput2 0 w (by omega) (by omega))
  have HZ:Hid (∀ w,Calls Tryz.prog 141 #[.int .u64 16,.int .i64 2] w fun e w'=>e=.returned (.string (pb 16 2))∧Below w.heap.size w w'):=(show ∀ w,_ from fun w=>mput2 16 w (by omega) (by omega))
  have HR:Hid (∀ w,Calls Tryz.prog 70 #[.string ⟨#[0]⟩,.int .i64 c] w fun e w'=>e=.returned (.string (zeros c))∧Below w.heap.size w w'):=(show ∀ w,_ from fun w=>repeat_any c w (by omega))
  have hps:=pb_size
  have hBs:B.size≤12:=by omega
  obtain ⟨ct,cfr,hk⟩:=hd.kinds
  have HD:Hid (Cd w):=hd
  have x0:=idk0
  have hk':(tx w (1,f,v)).heap[1]? = some (.cells kindsA ct cfr):=by
    have:=((Below.refl _ w).alloc (Nat.le_refl _) (.cells (tC (1,f,v)) 106)).block 1 (by have:=hd.pos;omega)
    exact this.trans hk
  clear hd hk
  go_enter Tryz.func121,Tryz.ntmps121
  go_wp2_with (refine wpList_load_row rfl 175 (.global 1) rfl 1 rfl ct kindsA cfr _ hk' Tryz.underlying175 rfl (by kernel_rfl) ?_)
  clear hk'
  go_loopw [7] (fun i wr=>∃ j:Int,0≤j∧j≤0∧i=.int .i64 j∧C3 wr w.heap.size 0 (1,f,v)∧w.heap.size < wr.heap.size∧Below w.heap.size w wr) (fun i _=>0 - (intOf i).toNat)
  case atStart=>exact ⟨0,by omega,by omega,rfl,C3.new w (1,f,v),by simp,by go_grown⟩
  case round =>
    obtain ⟨j,hj0,hj,rfl,hc,hlt,hbel⟩:=hrel
    have hj1:j=0:=by omega
    subst hj1
    have c0:=hc.1
    have HD2:Hid (∀ n:GrT (wr.alloc (.cells #[.int .i64 1,.int .i64 0,.int .i64 16] 174)),Cd n.w):=(show ∀ n:GrT (wr.alloc (.cells #[.int .i64 1,.int .i64 0,.int .i64 16] 174)),Cd n.w from fun n=>((HD.out.below hbel).alloc _).below n.h)
    have q:=C3.gr (W:=(wr.alloc (.cells #[.int .i64 1,.int .i64 0,.int .i64 16] 174))) (hc.below hlt ((Below.refl _ _).alloc (Nat.le_refl _) _)) (by simp;omega)
    have q0:=fun n=>(q n).1
    have q1:=fun n=>(q n).2.1
    have q2:=fun n=>(q n).2.2
    have k1:∀ n:GrT (wr.alloc (.cells #[.int .i64 1,.int .i64 0,.int .i64 16] 174)),n.w.cell? ⟨wr.heap.size,1,none⟩=some (.int .i64 0):=fun n=>(n.h.cell (p:=⟨wr.heap.size,1,none⟩) (by simp)).trans (by simp)
    have k2:∀ n:GrT (wr.alloc (.cells #[.int .i64 1,.int .i64 0,.int .i64 16] 174)),n.w.cell? ⟨wr.heap.size,2,none⟩=some (.int .i64 16):=fun n=>(n.h.cell (p:=⟨wr.heap.size,2,none⟩) (by simp)).trans (by simp)
    clear q
    go_wp2_with fail
    refine wp_region_grow (by kernel_rfl) (by kernel_rfl) ?_
    repeat (go_big_quiet_step ((first | (go_at_call 142;exact quiet_gr (HB.out _ (HD2.out _))) | (go_at_call_of 141 (Value.int IntKind.u64 0);exact quiet_gr (HN.out _)) | (go_at_call_of 141 (Value.int IntKind.u64 16);exact quiet_gr (HZ.out _)))))
    refine wpQuiet_nil ?_
    rintro w1 hw'
    have g1:=gr_elim hw'
    have b1:Below w.heap.size w w1:=btr (hbel.alloc hbel.size _) g1 (Nat.le_refl _)
    have k3:=k2 none
    have k4:=(g1.cell (p:=⟨wr.heap.size,2,none⟩) (by simp)).trans k3
    clear q0 q1 q2 k1 k2 k3 hw' HD2 hc hbel g1 c0
    have hS:(pb 0 2 ++ pb 16 2 ++ B).size + c=16:=by rw [ByteArray.size_append,ByteArray.size_append,hps,hps];omega
    obtain ⟨S,hS0⟩:∃ S,pb 0 2 ++ pb 16 2 ++ B=S:=⟨_,rfl⟩
    rw [hS0] at hS ⊢
    have HS0:Hid (pb 0 2 ++ pb 16 2 ++ B=S):=hS0
    clear hS0
    have hSc:(16:Int) - (S.size:Int)=(c:Int):=by omega
    have hzs:=zeros_size c
    go_wp2_with fail
    refine (HR.out _).mono ?_
    rintro r w2 ⟨rfl,g2⟩
    go_wp2_with fail
    go_ret
    exact ⟨by rw [HS0.out];rfl,btr b1 g2 (Nat.le_refl _)⟩
theorem write_2 (f v:Int) (B:ByteArray) (c:Nat) (w:World) (hd:Cd w) (hB:4 + B.size + c=8) (HB:Hid (∀ w,Cd w→Calls Tryz.prog 142 #[tV (2,f,v)] w fun e w'=>e=.returned (.string B)∧Below w.heap.size w w')) :
    Calls Tryz.prog 121 #[tV (2,f,v)] w fun e w'=>e=.returned (.string (pb 22 2 ++ pb 8 2 ++ B ++ zeros c))∧Below w.heap.size w w':=by
  have HN:Hid (∀ w,Calls Tryz.prog 141 #[.int .u64 22,.int .i64 2] w fun e w'=>e=.returned (.string (pb 22 2))∧Below w.heap.size w w'):=(show ∀ w,_ from fun w=>mput2 22 w (by omega) (by omega))
  have HZ:Hid (∀ w,Calls Tryz.prog 141 #[.int .u64 8,.int .i64 2] w fun e w'=>e=.returned (.string (pb 8 2))∧Below w.heap.size w w'):=(show ∀ w,_ from fun w=>mput2 8 w (by omega) (by omega))
  have HR:Hid (∀ w,Calls Tryz.prog 70 #[.string ⟨#[0]⟩,.int .i64 c] w fun e w'=>e=.returned (.string (zeros c))∧Below w.heap.size w w'):=(show ∀ w,_ from fun w=>repeat_any c w (by omega))
  have hps:=pb_size
  have hBs:B.size≤12:=by omega
  obtain ⟨ct,cfr,hk⟩:=hd.kinds
  have HD:Hid (Cd w):=hd
  have x0:=idk0
  have x1:=idk1
  have hk':(tx w (2,f,v)).heap[1]? = some (.cells kindsA ct cfr):=by
    have:=((Below.refl _ w).alloc (Nat.le_refl _) (.cells (tC (2,f,v)) 106)).block 1 (by have:=hd.pos;omega)
    exact this.trans hk
  clear hd hk
  go_enter Tryz.func121,Tryz.ntmps121
  go_wp2_with (refine wpList_load_row rfl 175 (.global 1) rfl 1 rfl ct kindsA cfr _ hk' Tryz.underlying175 rfl (by kernel_rfl) ?_)
  clear hk'
  go_loopw [7] (fun i wr=>∃ j:Int,0≤j∧j≤1∧i=.int .i64 j∧C3 wr w.heap.size 0 (2,f,v)∧w.heap.size < wr.heap.size∧Below w.heap.size w wr) (fun i _=>1 - (intOf i).toNat)
  case atStart=>exact ⟨0,by omega,by omega,rfl,C3.new w (2,f,v),by simp,by go_grown⟩
  case round =>
    obtain ⟨j,hj0,hj,rfl,hc,hlt,hbel⟩:=hrel
    have hcl:j=0∨j=1:=by omega
    rcases hcl with rfl | rfl
    · have c0:=hc.1
      go_wp2_with fail
      go_roundw
      case rel=>exact ⟨1,by omega,by omega,by go_num,hc.below hlt ((Below.refl _ _).alloc (Nat.le_refl _) _),by simp;omega,hbel.alloc hbel.size _⟩
      case measure=>simp [intOf]
    · have c0:=hc.1
      have HD2:Hid (∀ n:GrT (wr.alloc (.cells #[.int .i64 2,.int .i64 22,.int .i64 8] 174)),Cd n.w):=(show ∀ n:GrT (wr.alloc (.cells #[.int .i64 2,.int .i64 22,.int .i64 8] 174)),Cd n.w from fun n=>((HD.out.below hbel).alloc _).below n.h)
      have q:=C3.gr (W:=(wr.alloc (.cells #[.int .i64 2,.int .i64 22,.int .i64 8] 174))) (hc.below hlt ((Below.refl _ _).alloc (Nat.le_refl _) _)) (by simp;omega)
      have q0:=fun n=>(q n).1
      have q1:=fun n=>(q n).2.1
      have q2:=fun n=>(q n).2.2
      have k1:∀ n:GrT (wr.alloc (.cells #[.int .i64 2,.int .i64 22,.int .i64 8] 174)),n.w.cell? ⟨wr.heap.size,1,none⟩=some (.int .i64 22):=fun n=>(n.h.cell (p:=⟨wr.heap.size,1,none⟩) (by simp)).trans (by simp)
      have k2:∀ n:GrT (wr.alloc (.cells #[.int .i64 2,.int .i64 22,.int .i64 8] 174)),n.w.cell? ⟨wr.heap.size,2,none⟩=some (.int .i64 8):=fun n=>(n.h.cell (p:=⟨wr.heap.size,2,none⟩) (by simp)).trans (by simp)
      clear q
      go_wp2_with fail
      refine wp_region_grow (by kernel_rfl) (by kernel_rfl) ?_
      repeat (go_big_quiet_step ((first | (go_at_call 142;exact quiet_gr (HB.out _ (HD2.out _))) | (go_at_call_of 141 (Value.int IntKind.u64 22);exact quiet_gr (HN.out _)) | (go_at_call_of 141 (Value.int IntKind.u64 8);exact quiet_gr (HZ.out _)))))
      refine wpQuiet_nil ?_
      rintro w1 hw'
      have g1:=gr_elim hw'
      have b1:Below w.heap.size w w1:=btr (hbel.alloc hbel.size _) g1 (Nat.le_refl _)
      have k3:=k2 none
      have k4:=(g1.cell (p:=⟨wr.heap.size,2,none⟩) (by simp)).trans k3
      clear q0 q1 q2 k1 k2 k3 hw' HD2 hc hbel g1 c0
      have hS:(pb 22 2 ++ pb 8 2 ++ B).size + c=8:=by rw [ByteArray.size_append,ByteArray.size_append,hps,hps];omega
      obtain ⟨S,hS0⟩:∃ S,pb 22 2 ++ pb 8 2 ++ B=S:=⟨_,rfl⟩
      rw [hS0] at hS ⊢
      have HS0:Hid (pb 22 2 ++ pb 8 2 ++ B=S):=hS0
      clear hS0
      have hSc:(8:Int) - (S.size:Int)=(c:Int):=by omega
      have hzs:=zeros_size c
      go_wp2_with fail
      refine (HR.out _).mono ?_
      rintro r w2 ⟨rfl,g2⟩
      go_wp2_with fail
      go_ret
      exact ⟨by rw [HS0.out];rfl,btr b1 g2 (Nat.le_refl _)⟩
theorem write_3 (f v:Int) (B:ByteArray) (c:Nat) (w:World) (hd:Cd w) (hB:4 + B.size + c=8) (HB:Hid (∀ w,Cd w→Calls Tryz.prog 142 #[tV (3,f,v)] w fun e w'=>e=.returned (.string B)∧Below w.heap.size w w')) :
    Calls Tryz.prog 121 #[tV (3,f,v)] w fun e w'=>e=.returned (.string (pb 17 2 ++ pb 8 2 ++ B ++ zeros c))∧Below w.heap.size w w':=by
  have HN:Hid (∀ w,Calls Tryz.prog 141 #[.int .u64 17,.int .i64 2] w fun e w'=>e=.returned (.string (pb 17 2))∧Below w.heap.size w w'):=(show ∀ w,_ from fun w=>mput2 17 w (by omega) (by omega))
  have HZ:Hid (∀ w,Calls Tryz.prog 141 #[.int .u64 8,.int .i64 2] w fun e w'=>e=.returned (.string (pb 8 2))∧Below w.heap.size w w'):=(show ∀ w,_ from fun w=>mput2 8 w (by omega) (by omega))
  have HR:Hid (∀ w,Calls Tryz.prog 70 #[.string ⟨#[0]⟩,.int .i64 c] w fun e w'=>e=.returned (.string (zeros c))∧Below w.heap.size w w'):=(show ∀ w,_ from fun w=>repeat_any c w (by omega))
  have hps:=pb_size
  have hBs:B.size≤12:=by omega
  obtain ⟨ct,cfr,hk⟩:=hd.kinds
  have HD:Hid (Cd w):=hd
  have x0:=idk0
  have x1:=idk1
  have x2:=idk2
  have hk':(tx w (3,f,v)).heap[1]? = some (.cells kindsA ct cfr):=by
    have:=((Below.refl _ w).alloc (Nat.le_refl _) (.cells (tC (3,f,v)) 106)).block 1 (by have:=hd.pos;omega)
    exact this.trans hk
  clear hd hk
  go_enter Tryz.func121,Tryz.ntmps121
  go_wp2_with (refine wpList_load_row rfl 175 (.global 1) rfl 1 rfl ct kindsA cfr _ hk' Tryz.underlying175 rfl (by kernel_rfl) ?_)
  clear hk'
  go_loopw [7] (fun i wr=>∃ j:Int,0≤j∧j≤2∧i=.int .i64 j∧C3 wr w.heap.size 0 (3,f,v)∧w.heap.size < wr.heap.size∧Below w.heap.size w wr) (fun i _=>2 - (intOf i).toNat)
  case atStart=>exact ⟨0,by omega,by omega,rfl,C3.new w (3,f,v),by simp,by go_grown⟩
  case round =>
    obtain ⟨j,hj0,hj,rfl,hc,hlt,hbel⟩:=hrel
    have hcl:j=0∨j=1∨j=2:=by omega
    rcases hcl with rfl | rfl | rfl
    · have c0:=hc.1
      go_wp2_with fail
      go_roundw
      case rel=>exact ⟨1,by omega,by omega,by go_num,hc.below hlt ((Below.refl _ _).alloc (Nat.le_refl _) _),by simp;omega,hbel.alloc hbel.size _⟩
      case measure=>simp [intOf]
    · have c0:=hc.1
      go_wp2_with fail
      go_roundw
      case rel=>exact ⟨2,by omega,by omega,by go_num,hc.below hlt ((Below.refl _ _).alloc (Nat.le_refl _) _),by simp;omega,hbel.alloc hbel.size _⟩
      case measure=>simp [intOf]
    · have c0:=hc.1
      have HD2:Hid (∀ n:GrT (wr.alloc (.cells #[.int .i64 3,.int .i64 17,.int .i64 8] 174)),Cd n.w):=(show ∀ n:GrT (wr.alloc (.cells #[.int .i64 3,.int .i64 17,.int .i64 8] 174)),Cd n.w from fun n=>((HD.out.below hbel).alloc _).below n.h)
      have q:=C3.gr (W:=(wr.alloc (.cells #[.int .i64 3,.int .i64 17,.int .i64 8] 174))) (hc.below hlt ((Below.refl _ _).alloc (Nat.le_refl _) _)) (by simp;omega)
      have q0:=fun n=>(q n).1
      have q1:=fun n=>(q n).2.1
      have q2:=fun n=>(q n).2.2
      have k1:∀ n:GrT (wr.alloc (.cells #[.int .i64 3,.int .i64 17,.int .i64 8] 174)),n.w.cell? ⟨wr.heap.size,1,none⟩=some (.int .i64 17):=fun n=>(n.h.cell (p:=⟨wr.heap.size,1,none⟩) (by simp)).trans (by simp)
      have k2:∀ n:GrT (wr.alloc (.cells #[.int .i64 3,.int .i64 17,.int .i64 8] 174)),n.w.cell? ⟨wr.heap.size,2,none⟩=some (.int .i64 8):=fun n=>(n.h.cell (p:=⟨wr.heap.size,2,none⟩) (by simp)).trans (by simp)
      clear q
      go_wp2_with fail
      refine wp_region_grow (by kernel_rfl) (by kernel_rfl) ?_
      repeat (go_big_quiet_step ((first | (go_at_call 142;exact quiet_gr (HB.out _ (HD2.out _))) | (go_at_call_of 141 (Value.int IntKind.u64 17);exact quiet_gr (HN.out _)) | (go_at_call_of 141 (Value.int IntKind.u64 8);exact quiet_gr (HZ.out _)))))
      refine wpQuiet_nil ?_
      rintro w1 hw'
      have g1:=gr_elim hw'
      have b1:Below w.heap.size w w1:=btr (hbel.alloc hbel.size _) g1 (Nat.le_refl _)
      have k3:=k2 none
      have k4:=(g1.cell (p:=⟨wr.heap.size,2,none⟩) (by simp)).trans k3
      clear q0 q1 q2 k1 k2 k3 hw' HD2 hc hbel g1 c0
      have hS:(pb 17 2 ++ pb 8 2 ++ B).size + c=8:=by rw [ByteArray.size_append,ByteArray.size_append,hps,hps];omega
      obtain ⟨S,hS0⟩:∃ S,pb 17 2 ++ pb 8 2 ++ B=S:=⟨_,rfl⟩
      rw [hS0] at hS ⊢
      have HS0:Hid (pb 17 2 ++ pb 8 2 ++ B=S):=hS0
      clear hS0
      have hSc:(8:Int) - (S.size:Int)=(c:Int):=by omega
      have hzs:=zeros_size c
      go_wp2_with fail
      refine (HR.out _).mono ?_
      rintro r w2 ⟨rfl,g2⟩
      go_wp2_with fail
      go_ret
      exact ⟨by rw [HS0.out];rfl,btr b1 g2 (Nat.le_refl _)⟩
theorem write_4 (f v:Int) (B:ByteArray) (c:Nat) (w:World) (hd:Cd w) (hB:4 + B.size + c=8) (HB:Hid (∀ w,Cd w→Calls Tryz.prog 142 #[tV (4,f,v)] w fun e w'=>e=.returned (.string B)∧Below w.heap.size w w')) :
    Calls Tryz.prog 121 #[tV (4,f,v)] w fun e w'=>e=.returned (.string (pb 18 2 ++ pb 8 2 ++ B ++ zeros c))∧Below w.heap.size w w':=by
  have HN:Hid (∀ w,Calls Tryz.prog 141 #[.int .u64 18,.int .i64 2] w fun e w'=>e=.returned (.string (pb 18 2))∧Below w.heap.size w w'):=(show ∀ w,_ from fun w=>mput2 18 w (by omega) (by omega))
  have HZ:Hid (∀ w,Calls Tryz.prog 141 #[.int .u64 8,.int .i64 2] w fun e w'=>e=.returned (.string (pb 8 2))∧Below w.heap.size w w'):=(show ∀ w,_ from fun w=>mput2 8 w (by omega) (by omega))
  have HR:Hid (∀ w,Calls Tryz.prog 70 #[.string ⟨#[0]⟩,.int .i64 c] w fun e w'=>e=.returned (.string (zeros c))∧Below w.heap.size w w'):=(show ∀ w,_ from fun w=>repeat_any c w (by omega))
  have hps:=pb_size
  have hBs:B.size≤12:=by omega
  obtain ⟨ct,cfr,hk⟩:=hd.kinds
  have HD:Hid (Cd w):=hd
  have x0:=idk0
  have x1:=idk1
  have x2:=idk2
  have x3:=idk3
  have hk':(tx w (4,f,v)).heap[1]? = some (.cells kindsA ct cfr):=by
    have:=((Below.refl _ w).alloc (Nat.le_refl _) (.cells (tC (4,f,v)) 106)).block 1 (by have:=hd.pos;omega)
    exact this.trans hk
  clear hd hk
  go_enter Tryz.func121,Tryz.ntmps121
  go_wp2_with (refine wpList_load_row rfl 175 (.global 1) rfl 1 rfl ct kindsA cfr _ hk' Tryz.underlying175 rfl (by kernel_rfl) ?_)
  clear hk'
  go_loopw [7] (fun i wr=>∃ j:Int,0≤j∧j≤3∧i=.int .i64 j∧C3 wr w.heap.size 0 (4,f,v)∧w.heap.size < wr.heap.size∧Below w.heap.size w wr) (fun i _=>3 - (intOf i).toNat)
  case atStart=>exact ⟨0,by omega,by omega,rfl,C3.new w (4,f,v),by simp,by go_grown⟩
  case round =>
    obtain ⟨j,hj0,hj,rfl,hc,hlt,hbel⟩:=hrel
    have hcl:j=0∨j=1∨j=2∨j=3:=by omega
    rcases hcl with rfl | rfl | rfl | rfl
    · have c0:=hc.1
      go_wp2_with fail
      go_roundw
      case rel=>exact ⟨1,by omega,by omega,by go_num,hc.below hlt ((Below.refl _ _).alloc (Nat.le_refl _) _),by simp;omega,hbel.alloc hbel.size _⟩
      case measure=>simp [intOf]
    · have c0:=hc.1
      go_wp2_with fail
      go_roundw
      case rel=>exact ⟨2,by omega,by omega,by go_num,hc.below hlt ((Below.refl _ _).alloc (Nat.le_refl _) _),by simp;omega,hbel.alloc hbel.size _⟩
      case measure=>simp [intOf]
    · have c0:=hc.1
      go_wp2_with fail
      go_roundw
      case rel=>exact ⟨3,by omega,by omega,by go_num,hc.below hlt ((Below.refl _ _).alloc (Nat.le_refl _) _),by simp;omega,hbel.alloc hbel.size _⟩
      case measure=>simp [intOf]
    · have c0:=hc.1
      have HD2:Hid (∀ n:GrT (wr.alloc (.cells #[.int .i64 4,.int .i64 18,.int .i64 8] 174)),Cd n.w):=(show ∀ n:GrT (wr.alloc (.cells #[.int .i64 4,.int .i64 18,.int .i64 8] 174)),Cd n.w from fun n=>((HD.out.below hbel).alloc _).below n.h)
      have q:=C3.gr (W:=(wr.alloc (.cells #[.int .i64 4,.int .i64 18,.int .i64 8] 174))) (hc.below hlt ((Below.refl _ _).alloc (Nat.le_refl _) _)) (by simp;omega)
      have q0:=fun n=>(q n).1
      have q1:=fun n=>(q n).2.1
      have q2:=fun n=>(q n).2.2
      have k1:∀ n:GrT (wr.alloc (.cells #[.int .i64 4,.int .i64 18,.int .i64 8] 174)),n.w.cell? ⟨wr.heap.size,1,none⟩=some (.int .i64 18):=fun n=>(n.h.cell (p:=⟨wr.heap.size,1,none⟩) (by simp)).trans (by simp)
      have k2:∀ n:GrT (wr.alloc (.cells #[.int .i64 4,.int .i64 18,.int .i64 8] 174)),n.w.cell? ⟨wr.heap.size,2,none⟩=some (.int .i64 8):=fun n=>(n.h.cell (p:=⟨wr.heap.size,2,none⟩) (by simp)).trans (by simp)
      clear q
      go_wp2_with fail
      refine wp_region_grow (by kernel_rfl) (by kernel_rfl) ?_
      repeat (go_big_quiet_step ((first | (go_at_call 142;exact quiet_gr (HB.out _ (HD2.out _))) | (go_at_call_of 141 (Value.int IntKind.u64 18);exact quiet_gr (HN.out _)) | (go_at_call_of 141 (Value.int IntKind.u64 8);exact quiet_gr (HZ.out _)))))
      refine wpQuiet_nil ?_
      rintro w1 hw'
      have g1:=gr_elim hw'
      have b1:Below w.heap.size w w1:=btr (hbel.alloc hbel.size _) g1 (Nat.le_refl _)
      have k3:=k2 none
      have k4:=(g1.cell (p:=⟨wr.heap.size,2,none⟩) (by simp)).trans k3
      clear q0 q1 q2 k1 k2 k3 hw' HD2 hc hbel g1 c0
      have hS:(pb 18 2 ++ pb 8 2 ++ B).size + c=8:=by rw [ByteArray.size_append,ByteArray.size_append,hps,hps];omega
      obtain ⟨S,hS0⟩:∃ S,pb 18 2 ++ pb 8 2 ++ B=S:=⟨_,rfl⟩
      rw [hS0] at hS ⊢
      have HS0:Hid (pb 18 2 ++ pb 8 2 ++ B=S):=hS0
      clear hS0
      have hSc:(8:Int) - (S.size:Int)=(c:Int):=by omega
      have hzs:=zeros_size c
      go_wp2_with fail
      refine (HR.out _).mono ?_
      rintro r w2 ⟨rfl,g2⟩
      go_wp2_with fail
      go_ret
      exact ⟨by rw [HS0.out];rfl,btr b1 g2 (Nat.le_refl _)⟩
theorem write_5 (f v:Int) (B:ByteArray) (c:Nat) (w:World) (hd:Cd w) (hB:4 + B.size + c=16) (HB:Hid (∀ w,Cd w→Calls Tryz.prog 142 #[tV (5,f,v)] w fun e w'=>e=.returned (.string B)∧Below w.heap.size w w')) :
    Calls Tryz.prog 121 #[tV (5,f,v)] w fun e w'=>e=.returned (.string (pb 25 2 ++ pb 16 2 ++ B ++ zeros c))∧Below w.heap.size w w':=by
  have HN:Hid (∀ w,Calls Tryz.prog 141 #[.int .u64 25,.int .i64 2] w fun e w'=>e=.returned (.string (pb 25 2))∧Below w.heap.size w w'):=(show ∀ w,_ from fun w=>mput2 25 w (by omega) (by omega))
  have HZ:Hid (∀ w,Calls Tryz.prog 141 #[.int .u64 16,.int .i64 2] w fun e w'=>e=.returned (.string (pb 16 2))∧Below w.heap.size w w'):=(show ∀ w,_ from fun w=>mput2 16 w (by omega) (by omega))
  have HR:Hid (∀ w,Calls Tryz.prog 70 #[.string ⟨#[0]⟩,.int .i64 c] w fun e w'=>e=.returned (.string (zeros c))∧Below w.heap.size w w'):=(show ∀ w,_ from fun w=>repeat_any c w (by omega))
  have hps:=pb_size
  have hBs:B.size≤12:=by omega
  obtain ⟨ct,cfr,hk⟩:=hd.kinds
  have HD:Hid (Cd w):=hd
  have x0:=idk0
  have x1:=idk1
  have x2:=idk2
  have x3:=idk3
  have x4:=idk4
  have hk':(tx w (5,f,v)).heap[1]? = some (.cells kindsA ct cfr):=by
    have:=((Below.refl _ w).alloc (Nat.le_refl _) (.cells (tC (5,f,v)) 106)).block 1 (by have:=hd.pos;omega)
    exact this.trans hk
  clear hd hk
  go_enter Tryz.func121,Tryz.ntmps121
  go_wp2_with (refine wpList_load_row rfl 175 (.global 1) rfl 1 rfl ct kindsA cfr _ hk' Tryz.underlying175 rfl (by kernel_rfl) ?_)
  clear hk'
  go_loopw [7] (fun i wr=>∃ j:Int,0≤j∧j≤4∧i=.int .i64 j∧C3 wr w.heap.size 0 (5,f,v)∧w.heap.size < wr.heap.size∧Below w.heap.size w wr) (fun i _=>4 - (intOf i).toNat)
  case atStart=>exact ⟨0,by omega,by omega,rfl,C3.new w (5,f,v),by simp,by go_grown⟩
  case round =>
    obtain ⟨j,hj0,hj,rfl,hc,hlt,hbel⟩:=hrel
    have hcl:j=0∨j=1∨j=2∨j=3∨j=4:=by omega
    rcases hcl with rfl | rfl | rfl | rfl | rfl
    · have c0:=hc.1
      go_wp2_with fail
      go_roundw
      case rel=>exact ⟨1,by omega,by omega,by go_num,hc.below hlt ((Below.refl _ _).alloc (Nat.le_refl _) _),by simp;omega,hbel.alloc hbel.size _⟩
      case measure=>simp [intOf]
    · have c0:=hc.1
      go_wp2_with fail
      go_roundw
      case rel=>exact ⟨2,by omega,by omega,by go_num,hc.below hlt ((Below.refl _ _).alloc (Nat.le_refl _) _),by simp;omega,hbel.alloc hbel.size _⟩
      case measure=>simp [intOf]
    · have c0:=hc.1
      go_wp2_with fail
      go_roundw
      case rel=>exact ⟨3,by omega,by omega,by go_num,hc.below hlt ((Below.refl _ _).alloc (Nat.le_refl _) _),by simp;omega,hbel.alloc hbel.size _⟩
      case measure=>simp [intOf]
    · have c0:=hc.1
      go_wp2_with fail
      go_roundw
      case rel=>exact ⟨4,by omega,by omega,by go_num,hc.below hlt ((Below.refl _ _).alloc (Nat.le_refl _) _),by simp;omega,hbel.alloc hbel.size _⟩
      case measure=>simp [intOf]
    · have c0:=hc.1
      have HD2:Hid (∀ n:GrT (wr.alloc (.cells #[.int .i64 5,.int .i64 25,.int .i64 16] 174)),Cd n.w):=(show ∀ n:GrT (wr.alloc (.cells #[.int .i64 5,.int .i64 25,.int .i64 16] 174)),Cd n.w from fun n=>((HD.out.below hbel).alloc _).below n.h)
      have q:=C3.gr (W:=(wr.alloc (.cells #[.int .i64 5,.int .i64 25,.int .i64 16] 174))) (hc.below hlt ((Below.refl _ _).alloc (Nat.le_refl _) _)) (by simp;omega)
      have q0:=fun n=>(q n).1
      have q1:=fun n=>(q n).2.1
      have q2:=fun n=>(q n).2.2
      have k1:∀ n:GrT (wr.alloc (.cells #[.int .i64 5,.int .i64 25,.int .i64 16] 174)),n.w.cell? ⟨wr.heap.size,1,none⟩=some (.int .i64 25):=fun n=>(n.h.cell (p:=⟨wr.heap.size,1,none⟩) (by simp)).trans (by simp)
      have k2:∀ n:GrT (wr.alloc (.cells #[.int .i64 5,.int .i64 25,.int .i64 16] 174)),n.w.cell? ⟨wr.heap.size,2,none⟩=some (.int .i64 16):=fun n=>(n.h.cell (p:=⟨wr.heap.size,2,none⟩) (by simp)).trans (by simp)
      clear q
      go_wp2_with fail
      refine wp_region_grow (by kernel_rfl) (by kernel_rfl) ?_
      repeat (go_big_quiet_step ((first | (go_at_call 142;exact quiet_gr (HB.out _ (HD2.out _))) | (go_at_call_of 141 (Value.int IntKind.u64 25);exact quiet_gr (HN.out _)) | (go_at_call_of 141 (Value.int IntKind.u64 16);exact quiet_gr (HZ.out _)))))
      refine wpQuiet_nil ?_
      rintro w1 hw'
      have g1:=gr_elim hw'
      have b1:Below w.heap.size w w1:=btr (hbel.alloc hbel.size _) g1 (Nat.le_refl _)
      have k3:=k2 none
      have k4:=(g1.cell (p:=⟨wr.heap.size,2,none⟩) (by simp)).trans k3
      clear q0 q1 q2 k1 k2 k3 hw' HD2 hc hbel g1 c0
      have hS:(pb 25 2 ++ pb 16 2 ++ B).size + c=16:=by rw [ByteArray.size_append,ByteArray.size_append,hps,hps];omega
      obtain ⟨S,hS0⟩:∃ S,pb 25 2 ++ pb 16 2 ++ B=S:=⟨_,rfl⟩
      rw [hS0] at hS ⊢
      have HS0:Hid (pb 25 2 ++ pb 16 2 ++ B=S):=hS0
      clear hS0
      have hSc:(16:Int) - (S.size:Int)=(c:Int):=by omega
      have hzs:=zeros_size c
      go_wp2_with fail
      refine (HR.out _).mono ?_
      rintro r w2 ⟨rfl,g2⟩
      go_wp2_with fail
      go_ret
      exact ⟨by rw [HS0.out];rfl,btr b1 g2 (Nat.le_refl _)⟩
theorem body_1 (f v:Int) (w:World) (h0:0≤v) (h1:v < 4294967296):Calls Tryz.prog 142 #[tV (1,f,v)] w fun e w'=>e=.returned (.string (pb v 4 ++ pb 65535 2))∧Below w.heap.size w w':=by
 have H4:Hid (∀ w,Calls Tryz.prog 141 #[.int .u64 v,.int .i64 4] w fun e w'=>e=.returned (.string (pb v 4))∧Below w.heap.size w w'):=(show ∀ w,_ from fun w=>mput4 v w h0 h1)
 have H2:Hid (∀ w,Calls Tryz.prog 141 #[.int .u64 65535,.int .i64 2] w fun e w'=>e=.returned (.string (pb 65535 2))∧Below w.heap.size w w'):=(show ∀ w,_ from fun w=>mput2 65535 w (by omega) (by omega))
 have hps:=pb_size
 go_enter Tryz.func142,Tryz.ntmps142
 go_wp2_with fail
 refine (H4.out _).mono ?_
 rintro x w1 ⟨rfl,g1⟩
 go_wp2_with fail
 refine (H2.out _).mono ?_
 rintro x w2 ⟨rfl,g2⟩
 go_wp2_with fail
 go_ret
 exact ⟨rfl,btr (btr (by go_grown) g1 (by simp)) g2 (Nat.le_refl _)⟩
theorem body_2 (f v:Int) (w:World) (h0:0≤v) (h1:v < 4294967296):Calls Tryz.prog 142 #[tV (2,f,v)] w fun e w'=>e=.returned (.string (pb v 4))∧Below w.heap.size w w':=by
 have H4:Hid (∀ w,Calls Tryz.prog 141 #[.int .u64 v,.int .i64 4] w fun e w'=>e=.returned (.string (pb v 4))∧Below w.heap.size w w'):=(show ∀ w,_ from fun w=>mput4 v w h0 h1)
 go_enter Tryz.func142,Tryz.ntmps142
 go_wp2_with fail
 refine (H4.out _).mono ?_
 rintro x w1 ⟨rfl,g1⟩
 go_wp2_with fail
 go_ret
 exact ⟨rfl,btr (by go_grown) g1 (by simp)⟩
theorem body_3 (f v:Int) (w:World):Calls Tryz.prog 142 #[tV (3,f,v)] w fun e w'=>e=.returned (.string (pb 33024 2))∧Below w.heap.size w w':=by
 have H2:Hid (∀ w,Calls Tryz.prog 141 #[.int .u64 33024,.int .i64 2] w fun e w'=>e=.returned (.string (pb 33024 2))∧Below w.heap.size w w'):=(show ∀ w,_ from fun w=>mput2 33024 w (by omega) (by omega))
 go_enter Tryz.func142,Tryz.ntmps142
 go_wp2_with fail
 refine (H2.out _).mono ?_
 rintro x w1 ⟨rfl,g1⟩
 go_wp2_with fail
 go_ret
 exact ⟨rfl,btr (by go_grown) g1 (by simp)⟩
theorem body_4 (f v:Int) (w:World):Calls Tryz.prog 142 #[tV (4,f,v)] w fun e w'=>e=.returned (.string ⟨#[]⟩)∧Below w.heap.size w w':=by
 go_enter Tryz.func142,Tryz.ntmps142
 go_wp2
 go_ret
 exact ⟨rfl,by go_grown⟩
theorem write_any (a:A) (w:World) (hd:Cd w) (h:rightB a=true):Calls Tryz.prog 121 #[tV a] w fun e w'=>e=.returned (.string (writeV a))∧Below w.heap.size w w':=by
 have hp:=pb_size
 rcases right_cases h with ⟨h1,h2,h3,h4⟩ | ⟨h1,h2,h3,h4⟩ | ⟨h1,h2,h3⟩ | ⟨h1,h2,h3⟩ | ⟨h1,h2,h3,h4⟩
 ·obtain ⟨k,f,v⟩:=a
  simp only at h1 h2 h3 h4
  subst h1
  have e:writeV (1,f,v)=pb 0 2 ++ pb 16 2 ++ (pb v 4 ++ pb 65535 2) ++ zeros 6:=by simp [writeV,bodyV,knV,ksV,ByteArray.size_append,hp]
  rw [e]
  exact write_1 f v _ 6 w hd (by rw [ByteArray.size_append,hp,hp]) (show ∀ w,_ from fun w _=>body_1 f v w (by omega) (by omega))
 ·obtain ⟨k,f,v⟩:=a
  simp only at h1 h2 h3 h4
  subst h1
  have e:writeV (2,f,v)=pb 22 2 ++ pb 8 2 ++ pb v 4 ++ zeros 0:=by simp [writeV,bodyV,knV,ksV,hp]
  rw [e]
  exact write_2 f v _ 0 w hd (by rw [hp]) (show ∀ w,_ from fun w _=>body_2 f v w (by omega) (by omega))
 ·obtain ⟨k,f,v⟩:=a
  simp only at h1
  subst h1
  have e:writeV (3,f,v)=pb 17 2 ++ pb 8 2 ++ pb 33024 2 ++ zeros 2:=by simp [writeV,bodyV,knV,ksV,hp]
  rw [e]
  exact write_3 f v _ 2 w hd (by rw [hp]) (show ∀ w,_ from fun w _=>body_3 f v w)
 ·obtain ⟨k,f,v⟩:=a
  simp only at h1
  subst h1
  have e0:(⟨#[]⟩:ByteArray).size=0:=rfl
  have e:writeV (4,f,v)=pb 18 2 ++ pb 8 2 ++ ⟨#[]⟩ ++ zeros 4:=by simp [writeV,bodyV,knV,ksV,e0]
  rw [e]
  exact write_4 f v _ 4 w hd (by rw [e0]) (show ∀ w,_ from fun w _=>body_4 f v w)
 ·obtain ⟨k,f,v⟩:=a
  simp only at h1 h2 h3 h4
  subst h1
  have hf : ¬ (f < 1∨9 < f):=by omega
  have hv0:0≤v:=by unfold leastV at h3;split at h3 <;> omega
  have hsz:=szV_le f
  have hs4:szV f≤4:=by rcases h2 with rfl | rfl | rfl | rfl | rfl <;> decide
  have hc:0≤codeV f∧codeV f≤14:=by unfold codeV;(repeat' split) <;> omega
  have e:writeV (5,f,v)=pb 25 2 ++ pb 16 2 ++ setB (codeV f) (szV f) v ++ zeros (8 - szV f):=by
   simp only [writeV,bodyV,knV,ksV]
   simp [ByteArray.size_append,hp]
   congr 1
   omega
  rw [e]
  exact write_5 f v _ (8 - szV f) w hd (by simp only [ByteArray.size_append,hp];omega) (show ∀ w,_ from fun w hd'=>body_set f v (szV f) (codeV f) w hd' rfl hsz rfl hc.1 hc.2 (show ∀ w,_ from fun w=>mput_any v f w hf hv0 h4))
theorem all_snoc (l:List A) (k:Nat) (h:k < l.length):allB (l.take (k + 1))=(allB (l.take k) && rightB l[k]):=by
 unfold allB;rw [take_snoc_get l k h,List.all_append,List.all_cons,List.all_nil,Bool.and_true]
theorem allRight_any (a:Option Addr) (l:List A) (cap:Nat) (w:World) (h:Ts w a l) (hl:l.length≤1000) (hd:Cd w) :
    Calls Tryz.prog 120 #[.slice a l.length cap] w fun e w'=>e=.returned (.bool (allB l))∧Below w.heap.size w w':=by
  have HR:Hid (∀ x w,Cd w→Calls Tryz.prog 140 #[tV x] w fun e w'=>e=.returned (.bool (rightB x))∧Below w.heap.size w w'):=(show ∀ x w,_ from fun x w h=>right_any x w h)
  have HD:Hid (Cd w):=hd
  clear hd
  go_enter Tryz.func120,Tryz.ntmps120
  go_wp2_with fail
  go_loopw [7] (fun i wr=>∃ k:Nat,k≤l.length∧i=.int .i64 k∧allB (l.take k)=true∧Below w.heap.size w wr) (fun i _=>l.length - (intOf i).toNat)
  case atStart=>exact ⟨0,Nat.zero_le _,rfl,by simp [allB],Below.refl _ _⟩
  case round =>
    obtain ⟨k,hk,rfl,ha,hbel⟩:=hrel
    by_cases hlt:k < l.length
    · have hT:=h.below hbel
      obtain ⟨g,o,rfl,hg,hc⟩:=hT.at hlt
      obtain ⟨c0,c1,c2⟩:=hc k hlt
      have hs:=all_snoc l k hlt
      rw [ha,Bool.true_and] at hs
      have HE:Hid (rightB l[k]=false→allB l=false):=(show rightB l[k]=false→allB l=false from fun hf=>by
        unfold allB
        rw [List.all_eq_false]
        exact ⟨l[k],List.getElem_mem hlt,by simp [hf]⟩)
      have HS:Hid (allB (l.take (k + 1))=rightB l[k]):=hs
      have HDr:=HD.out.below hbel
      clear hs ha hc hT
      generalize l[k]=X at *
      cases hb:rightB X with
      | true =>
        go_wp2_with fail
        refine (HR.out _ _ (HDr.alloc _)).mono ?_
        rintro r w1 ⟨rfl,g1⟩
        rw [hb]
        have b1:Below w.heap.size w w1:=btr (hbel.alloc hbel.size _) g1 (Nat.le_refl _)
        go_wp2_with fail
        go_roundw
        case rel=>exact ⟨k + 1,by omega,by go_num,by rw [HS.out,hb],b1⟩
        case measure=>simp [intOf];omega
      | false =>
        go_wp2_with fail
        refine (HR.out _ _ (HDr.alloc _)).mono ?_
        rintro r w1 ⟨rfl,g1⟩
        rw [hb]
        have b1:Below w.heap.size w w1:=btr (hbel.alloc hbel.size _) g1 (Nat.le_refl _)
        go_wp2_with fail
        go_ret
        exact ⟨by rw [HE.out hb];rfl,b1⟩
    · have hk':k=l.length:=by omega
      subst hk'
      rw [List.take_length] at ha
      go_wp2_with fail
      go_ret
      exact ⟨by rw [ha];rfl,hbel⟩
theorem encL_append (l m:List A):encL (l ++ m)=encL l ++ encL m:=by
  induction l with
  | nil=>apply ba_ext;simp [encL]
  | cons x t ih =>
    show writeV x ++ encL (t ++ m)=writeV x ++ encL t ++ encL m
    rw [ih,ap_assoc]
theorem encL_one (x:A):encL [x]=writeV x:=by apply ba_ext;simp [encL]
theorem encL_snoc (l:List A) (k:Nat) (h:k < l.length):encL (l.take (k + 1))=encL (l.take k) ++ writeV l[k]:=by
 rw [take_snoc_get l k h,encL_append,encL_one]
theorem write_size {a:A} (h:rightB a=true):(writeV a).size≤16:=by
 rw [encS_len1 a h];unfold ksV;split <;> omega
theorem all_get {l:List A} (h:allB l=true) {k:Nat} (hk:k < l.length):rightB l[k]=true:=by
 unfold allB at h
 rw [List.all_eq_true] at h
 exact h _ (List.getElem_mem hk)
theorem encode_any (a:Option Addr) (l:List A) (cap:Nat) (w:World) (h:Ts w a l) (hl:l.length≤1000) (hd:Cd w) :
    Calls Tryz.prog 95 #[.slice a l.length cap] w fun e w'=>e=.returned (.tuple #[.string (encodeS l),.int .i64 (encodeE l)])∧Below w.heap.size w w':=by
  have HA:Hid (Calls Tryz.prog 120 #[.slice a l.length cap] w fun e w'=>e=.returned (.bool (allB l))∧Below w.heap.size w w'):=allRight_any a l cap w h hl hd
  have HW:Hid (∀ x w,Cd w→rightB x=true→Calls Tryz.prog 121 #[tV x] w fun e w'=>e=.returned (.string (writeV x))∧Below w.heap.size w w'):=(show ∀ x w,_ from fun x w h1 h2=>write_any x w h1 h2)
  have HD:Hid (Cd w):=hd
  clear hd
  cases hb:allB l with
  | false =>
    have e1:encodeE l=22:=by unfold encodeE;rw [hb];simp
    have e2:encodeS l=⟨#[]⟩:=by unfold encodeS;rw [e1];simp
    rw [e1,e2]
    rw [hb] at HA
    go_enter Tryz.func95,Tryz.ntmps95
    go_wp2_with fail
    refine HA.out.mono ?_
    rintro r w1 ⟨rfl,g1⟩
    go_wp2_with fail
    go_ret2
    exact ⟨rfl,g1⟩
  | true =>
    rw [hb] at HA
    by_cases h32:l.length≤32
    · have e1:encodeE l=0:=by unfold encodeE;rw [hb];simp [h32]
      have e2:encodeS l=encL l:=by unfold encodeS;rw [e1];simp
      rw [e1,e2]
      have z1 : ¬ (32:Int) < (l.length:Int):=by omega
      have HB:Hid (allB l=true):=hb
      clear e1 e2 hb
      go_enter Tryz.func95,Tryz.ntmps95
      go_wp2_with fail
      refine HA.out.mono ?_
      rintro r w1 ⟨rfl,g1⟩
      go_wp2_with fail
      go_loopw [4,17] (fun v i wr=>∃ (k:Nat) (s:ByteArray),k≤l.length∧i=.int .i64 k∧v=.string s∧Hid (s=encL (l.take k))∧s.size≤16 * k∧Below w.heap.size w wr) (fun _ i _=>l.length - (intOf i).toNat)
      case atStart=>exact ⟨0,⟨#[]⟩,Nat.zero_le _,rfl,rfl,(show _=_ from rfl),by simp [ByteArray.size],g1⟩
      case round =>
        obtain ⟨k,s,hk,rfl,rfl,HS,hsz,hbel⟩:=hrel
        by_cases hlt:k < l.length
        · have hT:=h.below hbel
          obtain ⟨g,o,rfl,hg,hc⟩:=hT.at hlt
          obtain ⟨c0,c1,c2⟩:=hc k hlt
          have HN:Hid (encL (l.take (k + 1))=encL (l.take k) ++ writeV l[k]):=encL_snoc l k hlt
          have hr:=all_get HB.out hlt
          have hws:=write_size hr
          have HDr:=HD.out.below hbel
          have HRX:Hid (rightB l[k]=true):=hr
          clear hc hT hr
          generalize l[k]=X at *
          go_wp2_with fail
          refine (HW.out _ _ (HDr.alloc _) HRX.out).mono ?_
          rintro r w2 ⟨rfl,g2⟩
          have b2:Below w.heap.size w w2:=btr (hbel.alloc hbel.size _) g2 (Nat.le_refl _)
          go_wp2_with fail
          go_roundw
          case rel=>exact ⟨k + 1,s ++ writeV X,by omega,by go_num,rfl,(show _=_ by rw [HN.out,HS.out]),by rw [ByteArray.size_append];omega,b2⟩
          case measure=>simp [intOf];omega
        · have hk':k=l.length:=by omega
          subst hk'
          have e:=HS.out
          rw [List.take_length] at e
          subst e
          go_wp2_with fail
          go_ret2
          exact ⟨rfl,hbel⟩
    · have e1:encodeE l=44:=by unfold encodeE;rw [hb];simp [h32]
      have e2:encodeS l=⟨#[]⟩:=by unfold encodeS;rw [e1];simp
      rw [e1,e2]
      have z1:(32:Int) < (l.length:Int):=by omega
      clear e1 e2 hb
      go_enter Tryz.func95,Tryz.ntmps95
      go_wp2_with fail
      refine HA.out.mono ?_
      rintro r w1 ⟨rfl,g1⟩
      go_wp2_with fail
      go_ret2
      exact ⟨rfl,g1⟩
end Go.Proofs.YtlcbfdiohcbpbaaGreatDoor
